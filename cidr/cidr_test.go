package cidr_test

import (
	"cmp"
	"math"
	"math/rand/v2"
	"slices"
	"strconv"
	"strings"
	"testing"

	"crossbuck/api"
	"crossbuck/cidr"
)

// addresses are those at the edges of the bits, and some between.
func addresses() []uint32 {
	l := []uint32{0, math.MaxUint32, 167772161, 16909060, 0xaaaaaaaa, 0x55555555}
	for i := range 32 {
		l = append(l, 1<<i, math.MaxUint32<<i, math.MaxUint32>>i)
	}
	r := rand.New(rand.NewPCG(5, 6))
	for range 40 {
		l = append(l, r.Uint32())
	}
	return l
}

// bitText is an address as 32 digits.
func bitText(a uint32) string {
	s := strconv.FormatUint(uint64(a), 2)
	return strings.Repeat("0", 32-len(s)) + s
}

// cutAt is an address with its first n bits alone.
func cutAt(a uint32, n int) uint32 {
	v, _ := strconv.ParseUint(bitText(a)[:n]+strings.Repeat("0", 32-n), 2, 32)
	return uint32(v)
}

// prefixes are some that may be, of all numbers of bits, with some that are within others, or end where others begin.
func prefixes() []api.Prefix {
	l := []api.Prefix{{}}
	for _, a := range []uint32{0, math.MaxUint32, 167772161, 0xaaaaaaaa} {
		for n := range 33 {
			l = append(l, api.Prefix{Addr: cutAt(a, n), Bits: n})
		}
	}
	for n := 1; n <= 32; n++ {
		l = append(l, api.Prefix{Addr: cutAt(167772161, n) ^ 1<<(32-n), Bits: n})
	}
	return l
}

// wrongPrefixes are some that may not be.
func wrongPrefixes() []api.Prefix {
	l := []api.Prefix{
		{Bits: -1}, {Bits: 33}, {Bits: 64}, {Bits: -32}, {Bits: math.MinInt}, {Bits: math.MaxInt},
		{Bits: -1 << 32}, {Bits: 1 << 32}, {Addr: math.MaxUint32, Bits: 33}, {Addr: math.MaxUint32, Bits: -1},
		{Addr: 167772161, Bits: 8}, {Addr: 1, Bits: 0}, {Addr: 1 << 31, Bits: 0}, {Addr: math.MaxUint32, Bits: 31},
	}
	for n := range 32 {
		l = append(l, api.Prefix{Addr: 1 << (31 - n), Bits: n}, api.Prefix{Addr: 1, Bits: n})
	}
	return l
}

// P3.1
func TestRight(t *testing.T) {
	for _, p := range prefixes() {
		if !cidr.Right(p) {
			t.Errorf("Right(%v) = false", p)
		}
	}
	for _, p := range wrongPrefixes() {
		if cidr.Right(p) {
			t.Errorf("Right(%v) = true", p)
		}
	}
	for _, a := range addresses() {
		for n := range 33 {
			if got, want := cidr.Right(api.Prefix{Addr: a, Bits: n}), !strings.Contains(bitText(a)[n:], "1"); got != want {
				t.Errorf("Right(%d/%d) = %v", a, n, got)
			}
		}
	}
}

// P3.1
func TestOf(t *testing.T) {
	for _, a := range addresses() {
		for n := range 33 {
			if got, want := cidr.Of(a, n), (api.Prefix{Addr: cutAt(a, n), Bits: n}); got != want {
				t.Errorf("Of(%d, %d) = %v, want %v", a, n, got, want)
			}
		}
		for _, n := range []int{-1, -2, -32, -1 << 32, math.MinInt + 1, math.MinInt} {
			if got := cidr.Of(a, n); got != (api.Prefix{}) {
				t.Errorf("Of(%d, %d) = %v", a, n, got)
			}
		}
		for _, n := range []int{33, 34, 64, 1 << 32, math.MaxInt} {
			if got, want := cidr.Of(a, n), (api.Prefix{Addr: a, Bits: 32}); got != want {
				t.Errorf("Of(%d, %d) = %v", a, n, got)
			}
		}
	}
}

// P3.1
func TestHas(t *testing.T) {
	for _, p := range prefixes() {
		l := append(addresses(), p.Addr, p.Addr-1, p.Addr+1, cidr.Last(p), cidr.Last(p)-1, cidr.Last(p)+1)
		for _, a := range l {
			if got, want := cidr.Has(p, a), bitText(a)[:p.Bits] == bitText(p.Addr)[:p.Bits]; got != want {
				t.Errorf("Has(%v, %d) = %v", p, a, got)
			}
		}
	}
}

// end is one beyond a prefix's last address.
func end(p api.Prefix) uint64 { return uint64(p.Addr) + 1<<(32-p.Bits) }

// P3.1
func TestPairs(t *testing.T) {
	for _, p := range prefixes() {
		for _, q := range prefixes() {
			if got, want := cidr.Within(p, q), q.Addr <= p.Addr && end(p) <= end(q); got != want {
				t.Errorf("Within(%v, %v) = %v", p, q, got)
			}
			if got, want := cidr.Meet(p, q), uint64(max(p.Addr, q.Addr)) < min(end(p), end(q)); got != want {
				t.Errorf("Meet(%v, %v) = %v", p, q, got)
			}
			if got, want := cidr.Compare(p, q), cmp.Or(cmp.Compare(p.Addr, q.Addr), cmp.Compare(p.Bits, q.Bits)); got != want {
				t.Errorf("Compare(%v, %v) = %d, want %d", p, q, got, want)
			}
		}
	}
}

// P3.1
func TestPairsByHand(t *testing.T) {
	all, ten, tenOne, eleven, one := api.Prefix{}, cidr.Of(10<<24, 8), cidr.Of(10<<24|1<<16, 16), cidr.Of(11<<24, 8), cidr.Of(10<<24, 32)
	for _, x := range []struct {
		p, q         api.Prefix
		within, meet bool
		compare      int
	}{
		{ten, ten, true, true, 0},
		{ten, all, true, true, 1},
		{all, ten, false, true, -1},
		{tenOne, ten, true, true, 1},
		{ten, tenOne, false, true, -1},
		{ten, eleven, false, false, -1},
		{tenOne, eleven, false, false, -1},
		{one, ten, true, true, 1},
		{ten, one, false, true, -1},
		{one, tenOne, false, false, -1},
	} {
		if cidr.Within(x.p, x.q) != x.within || cidr.Meet(x.p, x.q) != x.meet || cidr.Meet(x.q, x.p) != x.meet {
			t.Errorf("%v, %v: Within %v, Meet %v, %v", x.p, x.q, cidr.Within(x.p, x.q), cidr.Meet(x.p, x.q), cidr.Meet(x.q, x.p))
		}
		if cidr.Compare(x.p, x.q) != x.compare || cidr.Compare(x.q, x.p) != -x.compare {
			t.Errorf("%v, %v: Compare %d, %d", x.p, x.q, cidr.Compare(x.p, x.q), cidr.Compare(x.q, x.p))
		}
	}
}

// P3.1
func TestLast(t *testing.T) {
	for _, p := range prefixes() {
		if got := cidr.Last(p); uint64(got) != end(p)-1 {
			t.Errorf("Last(%v) = %d", p, got)
		}
	}
	for _, x := range []struct {
		p    api.Prefix
		want uint32
	}{
		{api.Prefix{}, math.MaxUint32},
		{api.Prefix{Bits: 32}, 0},
		{api.Prefix{Bits: 1}, 1<<31 - 1},
		{api.Prefix{Addr: 10 << 24, Bits: 8}, 11<<24 - 1},
		{api.Prefix{Addr: math.MaxUint32, Bits: 32}, math.MaxUint32},
	} {
		if got := cidr.Last(x.p); got != x.want {
			t.Errorf("Last(%v) = %d, want %d", x.p, got, x.want)
		}
	}
}

// R1: of prefixes that may not be nothing is promised but that the calls end.
func TestWrongPrefixes(t *testing.T) {
	for _, p := range wrongPrefixes() {
		for _, q := range append(wrongPrefixes(), prefixes()...) {
			cidr.Within(p, q)
			cidr.Within(q, p)
			cidr.Meet(p, q)
			cidr.Meet(q, p)
			cidr.Compare(p, q)
			cidr.Compare(q, p)
			cidr.Has(p, q.Addr)
		}
		cidr.Last(p)
		cidr.Print(p)
	}
}

// P3.2
func TestBlocksByHand(t *testing.T) {
	for _, x := range []struct {
		r    api.Range
		want []cidr.Block
	}{
		{api.Range{Low: 1, High: 6}, []cidr.Block{{Port: 1, Bits: 16}, {Port: 2, Bits: 15}, {Port: 4, Bits: 15}, {Port: 6, Bits: 16}}},
		{api.Range{Low: 0, High: 65535}, []cidr.Block{{Port: 0, Bits: 0}}},
		{api.Range{Low: 0, High: 0}, []cidr.Block{{Port: 0, Bits: 16}}},
		{api.Range{Low: 80, High: 80}, []cidr.Block{{Port: 80, Bits: 16}}},
		{api.Range{Low: 65535, High: 65535}, []cidr.Block{{Port: 65535, Bits: 16}}},
		{api.Range{Low: 65534, High: 65535}, []cidr.Block{{Port: 65534, Bits: 15}}},
		{api.Range{Low: 65533, High: 65535}, []cidr.Block{{Port: 65533, Bits: 16}, {Port: 65534, Bits: 15}}},
		{api.Range{Low: 32768, High: 65535}, []cidr.Block{{Port: 32768, Bits: 1}}},
		{api.Range{Low: 0, High: 32767}, []cidr.Block{{Port: 0, Bits: 1}}},
		{api.Range{Low: 32767, High: 32768}, []cidr.Block{{Port: 32767, Bits: 16}, {Port: 32768, Bits: 16}}},
		{api.Range{Low: 0, High: 32768}, []cidr.Block{{Port: 0, Bits: 1}, {Port: 32768, Bits: 16}}},
		{api.Range{Low: 1024, High: 2047}, []cidr.Block{{Port: 1024, Bits: 6}}},
		{api.Range{Low: 1, High: 0}, nil},
		{api.Range{Low: 65535, High: 0}, nil},
		{api.Range{Low: 65535, High: 65534}, nil},
	} {
		if got := cidr.Blocks(x.r); !slices.Equal(got, x.want) {
			t.Errorf("Blocks(%v) = %v, want %v", x.r, got, x.want)
		}
	}
	if n := len(cidr.Blocks(api.Range{Low: 1, High: 65534})); n != 30 {
		t.Errorf("Blocks(1 to 65534) are %d", n)
	}
}

// fewest is, for each first port of a range that ends ahead of a port, how many blocks are needed.
func fewest(end int) []int {
	need := make([]int, end+1)
	for low := end - 1; low >= 0; low-- {
		need[low] = math.MaxInt
		for size := 1; low%size == 0 && low+size <= end; size *= 2 {
			need[low] = min(need[low], 1+need[low+size])
		}
	}
	return need
}

// checkBlocks says whether blocks have just a range's ports, each once, rising.
func checkBlocks(r api.Range, l []cidr.Block) bool {
	next := int(r.Low)
	for _, b := range l {
		if b.Bits < 0 || b.Bits > 16 || int(b.Port) != next {
			return false
		}
		size := 1 << (16 - b.Bits)
		if next%size != 0 {
			return false
		}
		next += size
	}
	return next == int(r.High)+1
}

// P3.2
func TestBlocks(t *testing.T) {
	for _, high := range []int{0, 1, 2, 6, 7, 8, 80, 1023, 1024, 32767, 32768, 43690, 65533, 65534, 65535} {
		need := fewest(high + 1)
		for low := range high + 1 {
			r := api.Range{Low: uint16(low), High: uint16(high)}
			l := cidr.Blocks(r)
			if !checkBlocks(r, l) || len(l) != need[low] {
				t.Fatalf("Blocks(%v) = %v, want %d of them", r, l, need[low])
			}
		}
		for low := high + 1; low <= 65535; low += 4999 {
			if r := (api.Range{Low: uint16(low), High: uint16(high)}); len(cidr.Blocks(r)) != 0 {
				t.Fatalf("Blocks(%v) = %v", r, cidr.Blocks(r))
			}
		}
	}
}

// R3: each answer is new memory.
func TestBlocksAreNew(t *testing.T) {
	r := api.Range{Low: 1, High: 6}
	l := cidr.Blocks(r)
	clear(l)
	if m := cidr.Blocks(r); !checkBlocks(r, m) {
		t.Error(m)
	}
}

// P3.2
func TestIn(t *testing.T) {
	for _, x := range []struct {
		r    api.Range
		p    uint16
		want bool
	}{
		{api.Range{Low: 0, High: 65535}, 0, true},
		{api.Range{Low: 0, High: 65535}, 65535, true},
		{api.Range{Low: 0, High: 65535}, 80, true},
		{api.Range{Low: 80, High: 80}, 79, false},
		{api.Range{Low: 80, High: 80}, 80, true},
		{api.Range{Low: 80, High: 80}, 81, false},
		{api.Range{Low: 80, High: 443}, 79, false},
		{api.Range{Low: 80, High: 443}, 80, true},
		{api.Range{Low: 80, High: 443}, 443, true},
		{api.Range{Low: 80, High: 443}, 444, false},
		{api.Range{Low: 0, High: 0}, 0, true},
		{api.Range{Low: 0, High: 0}, 65535, false},
		{api.Range{Low: 65535, High: 65535}, 65535, true},
		{api.Range{Low: 65535, High: 65535}, 0, false},
		{api.Range{Low: 81, High: 80}, 80, false},
		{api.Range{Low: 81, High: 80}, 81, false},
		{api.Range{Low: 82, High: 80}, 81, false},
		{api.Range{Low: 65535, High: 0}, 80, false},
	} {
		if got := cidr.In(x.r, x.p); got != x.want {
			t.Errorf("In(%v, %d) = %v", x.r, x.p, got)
		}
	}
}

// P3.3
func TestPrintParse(t *testing.T) {
	for _, x := range []struct {
		p api.Prefix
		s string
	}{
		{api.Prefix{}, "0.0.0.0/0"},
		{api.Prefix{Bits: 32}, "0.0.0.0/32"},
		{api.Prefix{Bits: 9}, "0.0.0.0/9"},
		{api.Prefix{Addr: 10 << 24, Bits: 8}, "10.0.0.0/8"},
		{api.Prefix{Addr: 10<<24 | 1<<16, Bits: 16}, "10.1.0.0/16"},
		{api.Prefix{Addr: 1 << 31, Bits: 1}, "128.0.0.0/1"},
		{api.Prefix{Addr: 16909060, Bits: 30}, "1.2.3.4/30"},
		{api.Prefix{Addr: math.MaxUint32, Bits: 32}, "255.255.255.255/32"},
	} {
		if s := cidr.Print(x.p); s != x.s {
			t.Errorf("Print(%v) = %q, want %q", x.p, s, x.s)
		}
		if p, e := cidr.Parse(x.s); p != x.p || e != api.OK {
			t.Errorf("Parse(%q) = %v, %d, want %v", x.s, p, e, x.p)
		}
	}
	for _, p := range prefixes() {
		if q, e := cidr.Parse(cidr.Print(p)); q != p || e != api.OK {
			t.Errorf("Parse(%q) = %v, %d, want %v", cidr.Print(p), q, e, p)
		}
	}
}

// P3.3
func TestParseWrong(t *testing.T) {
	for _, x := range []struct {
		s string
		e api.Errno
	}{
		{"", api.ErrForm},
		{"10.0.0.0", api.ErrForm},
		{"10.0.0.0 8", api.ErrForm},
		{"10.0.0.0\\8", api.ErrForm},
		{"/", api.ErrForm},
		{"//", api.ErrForm},
		{"/8", api.ErrForm},
		{"10.0.0.0/", api.ErrForm},
		{"/10.0.0.0/8", api.ErrForm},
		{"10.0.0.0//8", api.ErrForm},
		{"10.0.0.0/8/", api.ErrForm},
		{"10.0.0.0/8/8", api.ErrForm},
		{"10.0.0/8", api.ErrForm},
		{"10.0.0.0.0/8", api.ErrForm},
		{"10.0..0/8", api.ErrForm},
		{"010.0.0.0/8", api.ErrForm},
		{"10.0.0.00/8", api.ErrForm},
		{"10.0.0.0/08", api.ErrForm},
		{"10.0.0.0/00", api.ErrForm},
		{"10.0.0.0/-1", api.ErrForm},
		{"10.0.0.0/+8", api.ErrForm},
		{"10.0.0.0/8 ", api.ErrForm},
		{"10.0.0.0/ 8", api.ErrForm},
		{" 10.0.0.0/8", api.ErrForm},
		{"10.0.0.0 /8", api.ErrForm},
		{"10.0.0.0/8\n", api.ErrForm},
		{"10.0.0.0/x", api.ErrForm},
		{"10.0.0.0/8x", api.ErrForm},
		{"any", api.ErrForm},

		{"256.0.0.0/8", api.ErrRange},
		{"10.0.0.256/8", api.ErrRange},
		{"10.0.0.0/33", api.ErrRange},
		{"0.0.0.0/33", api.ErrRange},
		{"10.0.0.0/100", api.ErrRange},
		{"10.0.0.0/18446744073709551624", api.ErrRange},

		{"10.0.0.1/8", api.ErrPrefix},
		{"0.0.0.1/0", api.ErrPrefix},
		{"128.0.0.0/0", api.ErrPrefix},
		{"0.0.0.1/31", api.ErrPrefix},
		{"255.255.255.255/31", api.ErrPrefix},
		{"10.128.0.0/8", api.ErrPrefix},

		{"256.0.0.0", api.ErrForm},
		{"256.0.0.0/x", api.ErrRange},
		{"x/33", api.ErrForm},
		{"256.0.0/33", api.ErrForm},
		{"10.0.0.1/33", api.ErrRange},
		{"10.0.0.1/", api.ErrForm},
		{"10.0.0.1/8/8", api.ErrForm},
	} {
		if p, e := cidr.Parse(x.s); p != (api.Prefix{}) || e != x.e {
			t.Errorf("Parse(%q) = %v, %d, want zeros, %d", x.s, p, e, x.e)
		}
	}
}

// P3.3
func TestRangePrintParse(t *testing.T) {
	for _, x := range []struct {
		r api.Range
		s string
	}{
		{api.Range{}, "0-0"},
		{api.Range{Low: 0, High: 65535}, "0-65535"},
		{api.Range{Low: 65535, High: 65535}, "65535-65535"},
		{api.Range{Low: 65534, High: 65535}, "65534-65535"},
		{api.Range{Low: 80, High: 80}, "80-80"},
		{api.Range{Low: 80, High: 443}, "80-443"},
		{api.Range{Low: 9, High: 10}, "9-10"},
		{api.Range{Low: 1, High: 32768}, "1-32768"},
	} {
		if s := cidr.PrintRange(x.r); s != x.s {
			t.Errorf("PrintRange(%v) = %q, want %q", x.r, s, x.s)
		}
		if r, e := cidr.ParseRange(x.s); r != x.r || e != api.OK {
			t.Errorf("ParseRange(%q) = %v, %d, want %v", x.s, r, e, x.r)
		}
	}
	for low := 0; low <= 65535; low += 257 {
		for high := low; high <= 65535; high += 255 {
			r := api.Range{Low: uint16(low), High: uint16(high)}
			if q, e := cidr.ParseRange(cidr.PrintRange(r)); q != r || e != api.OK {
				t.Fatalf("ParseRange(%q) = %v, %d", cidr.PrintRange(r), q, e)
			}
		}
	}
	if s := cidr.PrintRange(api.Range{Low: 2, High: 1}); s != "2-1" {
		t.Errorf("PrintRange(2 to 1) = %q", s)
	}
}

// P3.3
func TestParseRangeWrong(t *testing.T) {
	for _, x := range []struct {
		s string
		e api.Errno
	}{
		{"", api.ErrForm},
		{"80", api.ErrForm},
		{"80 80", api.ErrForm},
		{"80:80", api.ErrForm},
		{"-", api.ErrForm},
		{"--", api.ErrForm},
		{"-80", api.ErrForm},
		{"80-", api.ErrForm},
		{"80--81", api.ErrForm},
		{"-80-81", api.ErrForm},
		{"80-81-", api.ErrForm},
		{"80-81-82", api.ErrForm},
		{"080-81", api.ErrForm},
		{"80-081", api.ErrForm},
		{"00-0", api.ErrForm},
		{"0-00", api.ErrForm},
		{" 80-81", api.ErrForm},
		{"80 -81", api.ErrForm},
		{"80- 81", api.ErrForm},
		{"80-81 ", api.ErrForm},
		{"80-81\n", api.ErrForm},
		{"x-81", api.ErrForm},
		{"80-x", api.ErrForm},
		{"+80-81", api.ErrForm},
		{"80\u201381", api.ErrForm},
		{"any", api.ErrForm},

		{"65536-65536", api.ErrRange},
		{"0-65536", api.ErrRange},
		{"65536-0", api.ErrRange},
		{"0-4294967296", api.ErrRange},
		{"18446744073709551616-1", api.ErrRange},

		{"1-0", api.ErrBounds},
		{"81-80", api.ErrBounds},
		{"65535-65534", api.ErrBounds},
		{"65535-0", api.ErrBounds},
		{"10-9", api.ErrBounds},

		{"65536", api.ErrForm},
		{"65536-x", api.ErrRange},
		{"x-65536", api.ErrForm},
		{"65536-", api.ErrRange},
		{"-65536", api.ErrForm},
		{"2-1-", api.ErrForm},
		{"2-65536-", api.ErrRange},
		{"2-01", api.ErrForm},
	} {
		if r, e := cidr.ParseRange(x.s); r != (api.Range{}) || e != x.e {
			t.Errorf("ParseRange(%q) = %v, %d, want zeros, %d", x.s, r, e, x.e)
		}
	}
}

// P3.3: what is read is a prefix that may be, written as it was, and nothing else is read.
func FuzzParse(f *testing.F) {
	for _, s := range []string{"", "0.0.0.0/0", "10.0.0.0/8", "10.0.0.1/8", "10.0.0.0/33", "10.0.0.256/8", "10.0.0.0/08", "1.2.3.4/32/"} {
		f.Add(s)
	}
	f.Fuzz(func(t *testing.T, s string) {
		p, e := cidr.Parse(s)
		switch {
		case e == api.OK && (!cidr.Right(p) || cidr.Print(p) != s):
			t.Errorf("Parse(%q) = %v, written %q", s, p, cidr.Print(p))
		case e != api.OK && p != (api.Prefix{}):
			t.Errorf("Parse(%q) = %v beside %d", s, p, e)
		case e != api.OK && e != api.ErrForm && e != api.ErrRange && e != api.ErrPrefix:
			t.Errorf("Parse(%q): %d", s, e)
		}
	})
}

// P3.3: likewise of ranges.
func FuzzParseRange(f *testing.F) {
	for _, s := range []string{"", "0-0", "0-65535", "80-80", "81-80", "0-65536", "080-81", "80-81-82"} {
		f.Add(s)
	}
	f.Fuzz(func(t *testing.T, s string) {
		r, e := cidr.ParseRange(s)
		switch {
		case e == api.OK && (r.Low > r.High || cidr.PrintRange(r) != s):
			t.Errorf("ParseRange(%q) = %v, written %q", s, r, cidr.PrintRange(r))
		case e != api.OK && r != (api.Range{}):
			t.Errorf("ParseRange(%q) = %v beside %d", s, r, e)
		case e != api.OK && e != api.ErrForm && e != api.ErrRange && e != api.ErrBounds:
			t.Errorf("ParseRange(%q): %d", s, e)
		}
	})
}
