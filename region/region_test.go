package region_test

import (
	"math"
	"math/rand/v2"
	"slices"
	"testing"

	"crossbuck/api"
	"crossbuck/cidr"
	"crossbuck/filter"
	"crossbuck/region"
)

// shifts are those that there are.
var shifts = []int{0, 1, 2, 3}

// far are numbers that are no shift, and no region of one.
var far = []int{-1, -2, -29, -32, 8, 9, 32, 1 << 31, 1 << 32, -1 << 32, math.MinInt, math.MaxInt}

// wrong are prefixes that may not be, though some of them look like a region's.
var wrong = []api.Prefix{
	{Addr: 1 << 31, Bits: -1}, {Bits: -1}, {Bits: 33}, {Addr: 1 << 31, Bits: 33}, {Bits: math.MinInt}, {Bits: math.MaxInt},
	{Addr: 1 << 31}, {Addr: 1 << 30, Bits: 1}, {Addr: 1, Bits: 3}, {Addr: 1<<31 | 1, Bits: 2}, {Addr: 1, Bits: 31},
}

// prefix is the one of four numbers, and so many bits.
func prefix(a, b, c, d uint32, n int) api.Prefix {
	return api.Prefix{Addr: a<<24 | b<<16 | c<<8 | d, Bits: n}
}

// first and last are the first and the last address of a region, reckoned by dividing.
func first(shift, i int) uint64 { return uint64(i) * (1 << 32) / uint64(region.Count(shift)) }
func last(shift, i int) uint64  { return first(shift, i+1) - 1 }

// meets says whether a region has an address of a prefix that may be: whether two runs of addresses meet.
func meets(shift, i int, p api.Prefix) bool {
	low := uint64(p.Addr)
	high := low + 1<<(32-p.Bits) - 1
	return low <= last(shift, i) && first(shift, i) <= high
}

// touched are the regions that have an address of a prefix, asked one by one.
func touched(shift int, p api.Prefix) []int {
	var out []int
	for i := range region.Count(shift) {
		if meets(shift, i, p) {
			out = append(out, i)
		}
	}
	return out
}

// P16.1: there are the shifts from 0 to 3, each with twice as many regions as the one below it.
func TestCount(t *testing.T) {
	for i, want := range []int{1, 2, 4, 8} {
		if !region.Right(i) || region.Count(i) != want {
			t.Errorf("shift %d: %v, %d regions, want %d", i, region.Right(i), region.Count(i), want)
		}
	}
	for _, shift := range append([]int{4, 5, 7}, far...) {
		if region.Right(shift) || region.Count(shift) != 0 {
			t.Errorf("shift %d: %v, %d regions", shift, region.Right(shift), region.Count(shift))
		}
	}
}

// P16.1: the regions' prefixes, one behind the other.
func TestPrefix(t *testing.T) {
	want := [][]api.Prefix{
		{{}},
		{prefix(0, 0, 0, 0, 1), prefix(128, 0, 0, 0, 1)},
		{prefix(0, 0, 0, 0, 2), prefix(64, 0, 0, 0, 2), prefix(128, 0, 0, 0, 2), prefix(192, 0, 0, 0, 2)},
		{
			prefix(0, 0, 0, 0, 3), prefix(32, 0, 0, 0, 3), prefix(64, 0, 0, 0, 3), prefix(96, 0, 0, 0, 3),
			prefix(128, 0, 0, 0, 3), prefix(160, 0, 0, 0, 3), prefix(192, 0, 0, 0, 3), prefix(224, 0, 0, 0, 3),
		},
	}
	for shift, l := range want {
		for i, p := range l {
			if got := region.Prefix(shift, i); got != p {
				t.Errorf("Prefix(%d, %d) = %v, want %v", shift, i, got, p)
			}
		}
	}
}

// P16.1: where there is no such region, the prefix is that of all addresses.
func TestPrefixOfNone(t *testing.T) {
	for _, shift := range shifts {
		for _, i := range append([]int{region.Count(shift)}, far...) {
			if got := region.Prefix(shift, i); got != (api.Prefix{}) {
				t.Errorf("Prefix(%d, %d) = %v", shift, i, got)
			}
		}
	}
	for _, shift := range append([]int{4}, far...) {
		for _, i := range append([]int{0, 1, 2, 7}, far...) {
			if got := region.Prefix(shift, i); got != (api.Prefix{}) {
				t.Errorf("Prefix(%d, %d) = %v", shift, i, got)
			}
		}
	}
}

// P16.1: a region's first and last addresses are its own, and those beside them aren't.
func TestIndex(t *testing.T) {
	for _, shift := range shifts {
		for i := range region.Count(shift) {
			for _, a := range []uint64{first(shift, i), first(shift, i) + 1, last(shift, i) - 1, last(shift, i)} {
				if got := region.Index(shift, uint32(a)); got != i {
					t.Errorf("Index(%d, %d) = %d, want %d", shift, a, got, i)
				}
			}
		}
	}
	for _, shift := range append([]int{4}, far...) {
		for _, a := range []uint32{0, 1, 1 << 31, math.MaxUint32} {
			if got := region.Index(shift, a); got != 0 {
				t.Errorf("Index(%d, %d) = %d", shift, a, got)
			}
		}
	}
}

// P16.1, P16.3: an address is its region's prefix's, and no other one's.
func TestIndexIsOfOnePrefix(t *testing.T) {
	r := rand.New(rand.NewPCG(16, 1))
	for range 2000 {
		shift, a := r.IntN(4), r.Uint32()
		for i := range region.Count(shift) {
			if cidr.Has(region.Prefix(shift, i), a) != (region.Index(shift, a) == i) {
				t.Fatalf("shift %d: region %d of %d, whose Index is %d", shift, i, a, region.Index(shift, a))
			}
		}
	}
}

// P16.2: prefixes that are wider than a region, as wide, and narrower.
func TestTouched(t *testing.T) {
	for _, c := range []struct {
		shift int
		p     api.Prefix
		want  []int
	}{
		{0, api.Prefix{}, []int{0}},
		{0, prefix(255, 255, 255, 255, 32), []int{0}},
		{1, api.Prefix{}, []int{0, 1}},
		{1, prefix(128, 0, 0, 0, 1), []int{1}},
		{1, prefix(127, 255, 255, 255, 32), []int{0}},
		{1, prefix(128, 0, 0, 0, 32), []int{1}},
		{2, api.Prefix{}, []int{0, 1, 2, 3}},
		{2, prefix(128, 0, 0, 0, 1), []int{2, 3}},
		{2, prefix(64, 0, 0, 0, 2), []int{1}},
		{2, prefix(64, 0, 0, 0, 3), []int{1}},
		{3, api.Prefix{}, []int{0, 1, 2, 3, 4, 5, 6, 7}},
		{3, prefix(0, 0, 0, 0, 1), []int{0, 1, 2, 3}},
		{3, prefix(192, 0, 0, 0, 2), []int{6, 7}},
		{3, prefix(96, 0, 0, 0, 3), []int{3}},
		{3, prefix(10, 1, 0, 0, 16), []int{0}},
		{3, prefix(0, 0, 0, 0, 32), []int{0}},
		{3, prefix(255, 255, 255, 255, 32), []int{7}},
	} {
		if got := region.Touched(c.shift, c.p); !slices.Equal(got, c.want) {
			t.Errorf("Touched(%d, %v) = %v, want %v", c.shift, c.p, got, c.want)
		}
	}
}

// P16.2: each prefix of few bits, and the narrowest ones of those, in each shift.
func TestTouchedOfEach(t *testing.T) {
	for _, shift := range shifts {
		for bits := range 6 {
			for i := range uint32(1) << bits {
				p := cidr.Of(i<<(32-bits), bits)
				for _, q := range []api.Prefix{p, cidr.Of(p.Addr, 32), cidr.Of(cidr.Last(p), 32), cidr.Of(p.Addr, 20)} {
					if got := region.Touched(shift, q); !slices.Equal(got, touched(shift, q)) {
						t.Errorf("Touched(%d, %v) = %v, want %v", shift, q, got, touched(shift, q))
					}
				}
			}
		}
	}
}

// P16.2: no region is touched by a prefix that may not be, and there is none of a shift that isn't one.
func TestTouchedOfNone(t *testing.T) {
	for _, shift := range shifts {
		for _, p := range wrong {
			if got := region.Touched(shift, p); len(got) != 0 {
				t.Errorf("Touched(%d, %v) = %v", shift, p, got)
			}
		}
	}
	for _, shift := range append([]int{4}, far...) {
		for _, p := range append([]api.Prefix{{}, prefix(128, 0, 0, 0, 1), prefix(10, 0, 0, 1, 32)}, wrong...) {
			if got := region.Touched(shift, p); len(got) != 0 {
				t.Errorf("Touched(%d, %v) = %v", shift, p, got)
			}
			if got := region.All(shift, p, p); len(got) != 0 {
				t.Errorf("All(%d, %v ..) = %v", shift, p, got)
			}
		}
	}
}

// P16.2: of several prefixes, each region once, rising, in whatever order they come.
func TestAll(t *testing.T) {
	low, high, mid := prefix(0, 0, 0, 0, 2), prefix(224, 0, 0, 0, 4), prefix(64, 1, 0, 0, 16)
	for _, c := range []struct {
		shift int
		l     []api.Prefix
		want  []int
	}{
		{3, nil, nil},
		{3, []api.Prefix{}, nil},
		{3, []api.Prefix{mid}, []int{2}},
		{3, []api.Prefix{high, low}, []int{0, 1, 7}},
		{3, []api.Prefix{low, high}, []int{0, 1, 7}},
		{3, []api.Prefix{high, mid, low, mid, high}, []int{0, 1, 2, 7}},
		{3, []api.Prefix{mid, {}, high}, []int{0, 1, 2, 3, 4, 5, 6, 7}},
		{2, []api.Prefix{high, low, mid}, []int{0, 1, 3}},
		{1, []api.Prefix{high, low, mid}, []int{0, 1}},
		{0, []api.Prefix{high, low, mid}, []int{0}},
		{2, slices.Concat(wrong, []api.Prefix{mid}, wrong), []int{1}},
		{2, wrong, nil},
	} {
		if got := region.All(c.shift, c.l...); !slices.Equal(got, c.want) {
			t.Errorf("All(%d, %v) = %v, want %v", c.shift, c.l, got, c.want)
		}
	}
	if got := region.All(2); len(got) != 0 {
		t.Errorf("All of none = %v", got)
	}
}

// P16.2: All of prefixes at random is what Touched tells of each, put together.
func TestAllOfSome(t *testing.T) {
	r := rand.New(rand.NewPCG(16, 2))
	for range 3000 {
		shift := r.IntN(4)
		var l []api.Prefix
		var want []int
		for range r.IntN(6) {
			p := cidr.Of(r.Uint32(), r.IntN(7))
			if r.IntN(6) == 0 {
				p = wrong[r.IntN(len(wrong))]
			} else {
				want = append(want, touched(shift, p)...)
			}
			l = append(l, p)
		}
		slices.Sort(want)
		want = slices.Compact(want)
		if got := region.All(shift, l...); !slices.Equal(got, want) {
			t.Fatalf("All(%d, %v) = %v, want %v", shift, l, got, want)
		}
	}
}

// R3: what is handed in stays as it was, with the room behind its end, and each answer is new memory.
func TestAllIsNew(t *testing.T) {
	room := []api.Prefix{prefix(224, 0, 0, 0, 4), prefix(0, 0, 0, 0, 2), prefix(1, 2, 3, 4, 32), prefix(9, 9, 9, 9, 32)}
	was := slices.Clone(room)
	one := region.All(3, room[:2]...)
	if !slices.Equal(room, was) {
		t.Fatalf("handed in %v, then %v", was, room)
	}
	for i := range one {
		one[i] = 99
	}
	if two := region.All(3, room[:2]...); !slices.Equal(two, []int{0, 1, 7}) {
		t.Errorf("All again = %v", two)
	}
	l := region.Touched(1, api.Prefix{})
	l[0], l[1] = 5, 6
	if got := region.Touched(1, api.Prefix{}); !slices.Equal(got, []int{0, 1}) {
		t.Errorf("Touched again = %v", got)
	}
}

// of is a filter with all fields set beside Dst, which is one.
func of(p api.Prefix) api.Filter {
	return api.Filter{Dst: p, Src: prefix(1, 2, 0, 0, 16), Proto: 17, SPort: api.Range{Low: 5, High: 9}, DPort: api.Range{Low: 80, High: 80}}
}

// P16.2: of a filter and a region the narrower of both prefixes, and all else as it was; where they don't meet nothing.
func TestPart(t *testing.T) {
	for _, c := range []struct {
		shift, i int
		p, want  api.Prefix
		some     bool
	}{
		{0, 0, api.Prefix{}, api.Prefix{}, true},
		{0, 0, prefix(10, 0, 0, 0, 8), prefix(10, 0, 0, 0, 8), true},
		{0, 0, prefix(255, 255, 255, 255, 32), prefix(255, 255, 255, 255, 32), true},
		{1, 0, api.Prefix{}, prefix(0, 0, 0, 0, 1), true},
		{1, 1, api.Prefix{}, prefix(128, 0, 0, 0, 1), true},
		{1, 1, prefix(128, 0, 0, 0, 1), prefix(128, 0, 0, 0, 1), true},
		{1, 0, prefix(128, 0, 0, 0, 1), api.Prefix{}, false},
		{1, 1, prefix(192, 0, 0, 0, 2), prefix(192, 0, 0, 0, 2), true},
		{2, 3, prefix(128, 0, 0, 0, 1), prefix(192, 0, 0, 0, 2), true},
		{2, 2, prefix(128, 0, 0, 0, 1), prefix(128, 0, 0, 0, 2), true},
		{2, 1, prefix(128, 0, 0, 0, 1), api.Prefix{}, false},
		{3, 7, prefix(128, 0, 0, 0, 1), prefix(224, 0, 0, 0, 3), true},
		{3, 7, prefix(255, 255, 255, 255, 32), prefix(255, 255, 255, 255, 32), true},
		{3, 6, prefix(255, 255, 255, 255, 32), api.Prefix{}, false},
		{3, 0, prefix(10, 1, 0, 0, 16), prefix(10, 1, 0, 0, 16), true},
		{3, 1, prefix(10, 1, 0, 0, 16), api.Prefix{}, false},
		{3, 4, prefix(0, 0, 0, 0, 1), api.Prefix{}, false},
	} {
		want := of(c.want)
		if !c.some {
			want = api.Filter{}
		}
		if got, some := region.Part(c.shift, c.i, of(c.p)); got != want || some != c.some {
			t.Errorf("Part(%d, %d, %v) = %v, %v, want %v, %v", c.shift, c.i, c.p, got, some, want, c.some)
		}
	}
}

// P16.2: where there is no such region, there is no part.
func TestPartOfNone(t *testing.T) {
	for _, f := range []api.Filter{filter.All(), of(api.Prefix{}), of(prefix(128, 0, 0, 0, 1)), of(prefix(10, 0, 0, 1, 32))} {
		for _, shift := range shifts {
			for _, i := range append([]int{region.Count(shift)}, far...) {
				if got, some := region.Part(shift, i, f); got != (api.Filter{}) || some {
					t.Errorf("Part(%d, %d, %v) = %v, %v", shift, i, f, got, some)
				}
			}
		}
		for _, shift := range append([]int{4}, far...) {
			for _, i := range append([]int{0, 1, 2, 7}, far...) {
				if got, some := region.Part(shift, i, f); got != (api.Filter{}) || some {
					t.Errorf("Part(%d, %d, %v) = %v, %v", shift, i, f, got, some)
				}
			}
		}
	}
}

// header is one at random, whose Dst is often near a region's end, or a prefix's.
func header(r *rand.Rand, p api.Prefix) api.Header {
	dst := r.Uint32()
	switch r.IntN(4) {
	case 0:
		dst = uint32(first(3, r.IntN(8))) - uint32(r.IntN(2))
	case 1:
		dst = p.Addr - 1 + uint32(r.IntN(3))
	case 2:
		dst = cidr.Last(p) - 1 + uint32(r.IntN(3))
	}
	return api.Header{Dst: dst, Src: r.Uint32(), Proto: uint8(r.IntN(3)), SPort: uint16(r.Uint32()), DPort: uint16(r.IntN(100))}
}

// some is a filter that may be, at random.
func some(r *rand.Rand) api.Filter {
	f := filter.All()
	f.Dst, f.Src, f.Proto = cidr.Of(r.Uint32(), r.IntN(7)), cidr.Of(r.Uint32(), r.IntN(3)), r.IntN(4)-1
	if r.IntN(4) == 0 {
		f.Dst = cidr.Of(r.Uint32(), r.IntN(33))
	}
	f.DPort.High = uint16(r.IntN(100))
	return f
}

// P16.2, P16.3: a header passes a filter's part just if it passes the filter and is of that region; it is of one alone.
func TestPartsOfSome(t *testing.T) {
	r := rand.New(rand.NewPCG(16, 3))
	for range 1500 {
		shift, f := r.IntN(4), some(r)
		var parts []api.Filter
		for i := range region.Count(shift) {
			g, is := region.Part(shift, i, f)
			if is != meets(shift, i, f.Dst) || is && filter.Check(g) != api.OK || !is && g != (api.Filter{}) {
				t.Fatalf("Part(%d, %d, %v) = %v, %v", shift, i, f, g, is)
			}
			if is {
				parts = append(parts, g)
			}
			for range 20 {
				h := header(r, f.Dst)
				of := first(shift, i) <= uint64(h.Dst) && uint64(h.Dst) <= last(shift, i)
				if (is && filter.Match(g, h)) != (filter.Match(f, h) && of) {
					t.Fatalf("%v of Part(%d, %d, %v) = %v", h, shift, i, f, g)
				}
			}
		}
		for range 20 {
			h, n := header(r, f.Dst), 0
			for _, g := range parts {
				if filter.Match(g, h) {
					n++
				}
			}
			if filter.Match(f, h) != (n == 1) || n > 1 {
				t.Fatalf("%v is of %d parts of %v", h, n, f)
			}
		}
	}
}

// R1: nothing panics, whatever numbers are handed in.
func TestAnything(t *testing.T) {
	r := rand.New(rand.NewPCG(16, 4))
	num := func() int {
		if r.IntN(2) == 0 {
			return r.IntN(12) - 4
		}
		return far[r.IntN(len(far))]
	}
	for range 20000 {
		shift, i := num(), num()
		p := api.Prefix{Addr: r.Uint32() & r.Uint32() & r.Uint32(), Bits: num()}
		q := api.Prefix{Addr: r.Uint32(), Bits: num()}
		region.Prefix(shift, i)
		region.Index(shift, p.Addr)
		region.All(shift, p, q)
		l := region.Touched(shift, p)
		if len(l) > 0 && !cidr.Right(p) {
			t.Fatalf("Touched(%d, %v) = %v", shift, p, l)
		}
		f := api.Filter{Dst: p, Src: q, Proto: num(), SPort: api.Range{Low: uint16(num()), High: uint16(num())}}
		if g, is := region.Part(shift, i, f); !is && g != (api.Filter{}) {
			t.Fatalf("Part(%d, %d, %v) = %v", shift, i, f, g)
		}
	}
}
