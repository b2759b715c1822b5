package enc_test

import (
	"math"
	"math/rand/v2"
	"slices"
	"testing"

	"crossbuck/api"
	"crossbuck/bdd"
	"crossbuck/cidr"
	"crossbuck/enc"
	"crossbuck/filter"
	"crossbuck/hdr"
)

// allPorts is the range that has each port.
var allPorts = api.Range{High: math.MaxUint16}

// allSet is the header whose bits are all set.
var allSet = api.Header{Dst: math.MaxUint32, Src: math.MaxUint32, Proto: math.MaxUint8, SPort: math.MaxUint16, DPort: math.MaxUint16}

// arena is one with room for so many nodes.
func arena(t *testing.T, most int) *bdd.Arena {
	t.Helper()
	a, e := bdd.New(most)
	if e != api.OK || a == nil {
		t.Fatalf("New(%d) = %v, %d", most, a, e)
	}
	return a
}

// sure is the set that a call answers, which must be OK.
func sure(t *testing.T) func(f int, e api.Errno) int {
	return func(f int, e api.Errno) int {
		t.Helper()
		if e != api.OK {
			t.Fatalf("error %d, want OK", e)
		}
		return f
	}
}

// refused says that a call must answer that error, and nothing else.
func refused(t *testing.T, want api.Errno) func(f int, e api.Errno) {
	return func(f int, e api.Errno) {
		t.Helper()
		if f != 0 || e != want {
			t.Errorf("answer %d, %d, want 0, %d", f, e, want)
		}
	}
}

// row is what Node tells.
type row struct{ level, low, high int }

// rows are all nodes of an arena, by their numbers.
func rows(a *bdd.Arena) []row {
	var out []row
	for f := range a.Len() {
		level, low, high := a.Node(f)
		out = append(out, row{level, low, high})
	}
	return out
}

// within is how many nodes a set has; a node's parts have less numbers, so one way down is enough.
func within(a *bdd.Arena, f int) int {
	mine := make([]bool, a.Len())
	mine[f] = true
	n := 0
	for i := a.Len() - 1; i > bdd.True; i-- {
		if mine[i] {
			n++
			_, low, high := a.Node(i)
			mine[low], mine[high] = true, true
		}
	}
	return n
}

// withAddr is a header with another address in a field.
func withAddr(h api.Header, field int, n uint32) api.Header {
	if field == hdr.Dst {
		h.Dst = n
	} else {
		h.Src = n
	}
	return h
}

// withPort is a header with another port in a field.
func withPort(h api.Header, field int, n uint16) api.Header {
	if field == hdr.SPort {
		h.SPort = n
	} else {
		h.DPort = n
	}
	return h
}

// scattered is a header with any bits.
func scattered(r *rand.Rand) api.Header {
	return api.Header{Dst: r.Uint32(), Src: r.Uint32(), Proto: uint8(r.Uint32()), SPort: uint16(r.Uint32()), DPort: uint16(r.Uint32())}
}

// prefixes are some that may be, of each number of bits.
func prefixes() []api.Prefix {
	var out []api.Prefix
	for n := range 33 {
		for _, a := range []uint32{0, math.MaxUint32, 10 << 24, 0xaaaaaaaa, 0x55555555, 1, 1 << 31} {
			out = append(out, cidr.Of(a, n))
		}
	}
	return out
}

// wrongPrefixes are some that may not be.
var wrongPrefixes = []api.Prefix{
	{Bits: -1}, {Bits: 33}, {Bits: 64}, {Bits: 1 << 32}, {Bits: 1<<32 + 8}, {Bits: math.MinInt}, {Bits: math.MaxInt},
	{Addr: 1}, {Addr: 1 << 31}, {Addr: 1, Bits: 31}, {Addr: 10<<24 | 1, Bits: 8}, {Addr: 10<<24 | 1<<23, Bits: 8}, {Addr: math.MaxUint32, Bits: 33},
}

// ranges are some that have a port: the ends, one port, all, blocks and what is beside them.
func ranges() []api.Range {
	out := []api.Range{
		{}, allPorts, {Low: math.MaxUint16, High: math.MaxUint16}, {Low: 80, High: 80}, {Low: 1, High: 6},
		{Low: 1, High: math.MaxUint16}, {High: math.MaxUint16 - 1}, {Low: 1, High: math.MaxUint16 - 1},
		{Low: 1 << 15, High: math.MaxUint16}, {High: 1<<15 - 1}, {Low: 1<<15 - 1, High: 1 << 15},
		{Low: 1024, High: math.MaxUint16}, {High: 1023}, {Low: 1024, High: 2047}, {Low: 1023, High: 2048}, {Low: 1025, High: 2046},
		{Low: 0x5555, High: 0xaaaa}, {Low: 0x2aaa, High: 0xd555}, {Low: 2, High: 3}, {Low: 1, High: 2}, {High: 1},
	}
	r := rand.New(rand.NewPCG(7, 1))
	for range 30 {
		x, y := uint16(r.Uint32()), uint16(r.Uint32())
		out = append(out, api.Range{Low: min(x, y), High: max(x, y)})
	}
	return out
}

// wrongRanges are some that have no port.
var wrongRanges = []api.Range{{Low: 1}, {Low: math.MaxUint16}, {Low: math.MaxUint16, High: math.MaxUint16 - 1}, {Low: 81, High: 80}, {Low: 1 << 15, High: 1<<15 - 1}}

// filters are some that may be: each field from its least to its greatest, and any.
func filters() []api.Filter {
	out := []api.Filter{
		{}, filter.All(),
		{Dst: cidr.Of(10<<24, 8), Proto: api.Any, SPort: allPorts, DPort: api.Range{Low: 80, High: 80}},
		{Src: cidr.Of(10<<24, 8), Proto: 6, SPort: api.Range{Low: 1024, High: math.MaxUint16}, DPort: allPorts},
		{Proto: 0, SPort: allPorts, DPort: allPorts},
		{Proto: 255, SPort: allPorts, DPort: allPorts},
		{Dst: cidr.Of(math.MaxUint32, 32), Src: cidr.Of(math.MaxUint32, 32), Proto: 255, SPort: api.Range{Low: math.MaxUint16, High: math.MaxUint16}, DPort: api.Range{Low: math.MaxUint16, High: math.MaxUint16}},
		{Dst: cidr.Of(0, 32), Src: cidr.Of(0, 32), SPort: api.Range{Low: 1, High: math.MaxUint16 - 1}, DPort: api.Range{Low: 1, High: math.MaxUint16 - 1}},
		{Proto: api.Any, SPort: api.Range{Low: 0x5555, High: 0xaaaa}, DPort: api.Range{Low: 0x2aaa, High: 0xd555}},
	}
	r := rand.New(rand.NewPCG(7, 2))
	l := ranges()
	for range 60 {
		out = append(out, api.Filter{Dst: cidr.Of(r.Uint32(), r.IntN(33)), Src: cidr.Of(r.Uint32(), r.IntN(33)), Proto: r.IntN(257) - 1, SPort: l[r.IntN(len(l))], DPort: l[r.IntN(len(l))]})
	}
	return out
}

// blocks is the set of a range another way: all its blocks together.
func blocks(t *testing.T, a *bdd.Arena, field int, r api.Range) int {
	ok, f := sure(t), bdd.False
	for _, b := range cidr.Blocks(r) {
		var l []bdd.Lit
		for i := range b.Bits {
			l = append(l, bdd.Lit{Var: field + i, On: b.Port>>(15-i)&1 == 1})
		}
		f = ok(a.Join(bdd.Or, f, ok(a.Cube(l...))))
	}
	return f
}

// bitByBit is the set of a filter another way: what it asks of a field, field by field.
func bitByBit(t *testing.T, a *bdd.Arena, f api.Filter) int {
	ok, out := sure(t), blocks(t, a, hdr.SPort, f.SPort)
	out = ok(a.Join(bdd.And, out, blocks(t, a, hdr.DPort, f.DPort)))
	ask := func(first, n int, bits uint32) {
		for i := range n {
			x := ok(a.Cube(bdd.Lit{Var: first + i, On: bits<<i>>31 == 1}))
			out = ok(a.Join(bdd.And, x, out))
		}
	}
	ask(0, f.Dst.Bits, f.Dst.Addr)
	ask(32, f.Src.Bits, f.Src.Addr)
	if f.Proto != api.Any {
		ask(64, 8, uint32(f.Proto)<<24)
	}
	return out
}

// P7.1: the example, and by the nodes one by one.
func TestPrefixPlain(t *testing.T) {
	a, ok := arena(t, 100), sure(t)
	for _, field := range []int{hdr.Dst, hdr.Src} {
		if f := ok(enc.Prefix(a, field, api.Prefix{})); f != bdd.True || a.Len() != 2 {
			t.Errorf("Prefix of no bits = %d, Len %d", f, a.Len())
		}
	}
	f := ok(enc.Prefix(a, hdr.Src, api.Prefix{Addr: 0xa0000000, Bits: 4}))
	want := []row{{104, 0, 0}, {104, 1, 1}, {35, 1, 0}, {34, 0, 2}, {33, 3, 0}, {32, 0, 4}}
	if f != 5 || !slices.Equal(rows(a), want) {
		t.Errorf("Prefix of 160/4 = %d, nodes %v, want %v", f, rows(a), want)
	}
}

// P7.1: each prefix has the headers that cidr says, whatever their other fields are; and makes its own nodes alone (R8).
func TestPrefix(t *testing.T) {
	r := rand.New(rand.NewPCG(7, 3))
	for _, field := range []int{hdr.Dst, hdr.Src} {
		for _, p := range prefixes() {
			a := arena(t, 100)
			f := sure(t)(enc.Prefix(a, field, p))
			if a.Len() != 2+p.Bits || within(a, f) != p.Bits {
				t.Errorf("Prefix %s: Len %d, nodes %d", cidr.Print(p), a.Len(), within(a, f))
			}
			edges := []uint32{p.Addr, cidr.Last(p), p.Addr - 1, cidr.Last(p) + 1, 0, math.MaxUint32, r.Uint32()}
			for i := range 32 {
				edges = append(edges, p.Addr^1<<i)
			}
			for _, n := range edges {
				h := withAddr(scattered(r), field, n)
				if a.In(f, h) != cidr.Has(p, n) {
					t.Errorf("Prefix %s of field %d: In(%s) = %v", cidr.Print(p), field, hdr.Print(h), a.In(f, h))
				}
			}
		}
	}
}

// P7.1: each port of each range, by each field, against cidr; and as the range's blocks are together.
func TestRange(t *testing.T) {
	r := rand.New(rand.NewPCG(7, 4))
	for _, field := range []int{hdr.SPort, hdr.DPort} {
		for _, p := range ranges() {
			a := arena(t, 10000)
			f := sure(t)(enc.Range(a, field, p))
			if others := a.Len() - 2 - within(a, f); others > 10000 {
				t.Errorf("Range %s: %d other nodes", cidr.PrintRange(p), others)
			}
			other := scattered(r)
			for n := range 1 << 16 {
				h := withPort(other, field, uint16(n))
				if a.In(f, h) != cidr.In(p, uint16(n)) {
					t.Fatalf("Range %s of field %d: In(%s) = %v", cidr.PrintRange(p), field, hdr.Print(h), a.In(f, h))
				}
			}
			if g := blocks(t, a, field, p); f != g {
				t.Errorf("Range %s of field %d = %d, its blocks %d", cidr.PrintRange(p), field, f, g)
			}
		}
	}
}

// P7.1: the ranges whose sets are plain: all ports, one port, and half of them.
func TestRangePlain(t *testing.T) {
	ok := sure(t)
	for _, field := range []int{hdr.SPort, hdr.DPort} {
		a := arena(t, 100)
		if f := ok(enc.Range(a, field, allPorts)); f != bdd.True || a.Len() != 2 {
			t.Errorf("Range of all ports = %d, Len %d", f, a.Len())
		}
		for _, n := range []uint16{0, 80, math.MaxUint16} {
			f := ok(enc.Range(a, field, api.Range{Low: n, High: n}))
			var l []bdd.Lit
			for i := range 16 {
				l = append(l, bdd.Lit{Var: field + i, On: n>>(15-i)&1 == 1})
			}
			if g := ok(a.Cube(l...)); f != g {
				t.Errorf("Range of port %d = %d, want %d", n, f, g)
			}
		}
		if f, g := ok(enc.Range(a, field, api.Range{Low: 1 << 15, High: math.MaxUint16})), ok(a.Var(field)); f != g {
			t.Errorf("Range of the upper half = %d, want %d", f, g)
		}
	}
}

// P7.1: headers at and beside the edges of each filter, against filter.
func TestFilter(t *testing.T) {
	r := rand.New(rand.NewPCG(7, 5))
	for _, f := range filters() {
		a := arena(t, api.MaxNodes)
		set := sure(t)(enc.Filter(a, f))
		if others := a.Len() - 2 - within(a, set); others > 10000 {
			t.Errorf("Filter %s: %d other nodes", filter.Print(f), others)
		}
		least := filter.Some(f)
		most := api.Header{Dst: cidr.Last(f.Dst), Src: cidr.Last(f.Src), Proto: least.Proto, SPort: f.SPort.High, DPort: f.DPort.High}
		l := []api.Header{{}, allSet, least, most, scattered(r)}
		for i := range api.Vars {
			l = append(l, hdr.With(least, i, !hdr.Bit(least, i)), hdr.With(most, i, !hdr.Bit(most, i)))
		}
		for _, h := range []api.Header{least, most} {
			l = append(l, withPort(h, hdr.SPort, h.SPort-1), withPort(h, hdr.SPort, h.SPort+1))
			l = append(l, withPort(h, hdr.DPort, h.DPort-1), withPort(h, hdr.DPort, h.DPort+1))
		}
		for _, h := range l {
			if a.In(set, h) != filter.Match(f, h) {
				t.Errorf("Filter %s: In(%s) = %v", filter.Print(f), hdr.Print(h), a.In(set, h))
			}
		}
	}
}

// P7.1: the filter that all pass, and one that asks for a header alone, make no other nodes.
func TestFilterPlain(t *testing.T) {
	a, ok := arena(t, 200), sure(t)
	if f := ok(enc.Filter(a, filter.All())); f != bdd.True || a.Len() != 2 {
		t.Errorf("Filter of all = %d, Len %d", f, a.Len())
	}
	f := ok(enc.Filter(a, api.Filter{Dst: cidr.Of(0, 32), Src: cidr.Of(0, 32)}))
	if g := ok(enc.Header(a, api.Header{})); f != g || a.Len() != 106 {
		t.Errorf("Filter of noughts = %d, Header of noughts = %d, Len %d", f, g, a.Len())
	}
}

// P7.1: a header's set has it, and no other one; it makes its 104 nodes alone (R8).
func TestHeader(t *testing.T) {
	r := rand.New(rand.NewPCG(7, 6))
	l := []api.Header{{}, allSet, {Dst: 1}, {Src: 1 << 31}, {Proto: 6}, {SPort: 1}, {DPort: 1}}
	for range 20 {
		l = append(l, scattered(r))
	}
	for _, h := range l {
		a := arena(t, 106)
		f := sure(t)(enc.Header(a, h))
		if a.Len() != 106 || within(a, f) != 104 || !a.In(f, h) {
			t.Errorf("Header %s: Len %d, nodes %d, In %v", hdr.Print(h), a.Len(), within(a, f), a.In(f, h))
		}
		for i := range api.Vars {
			if other := hdr.With(h, i, !hdr.Bit(h, i)); a.In(f, other) {
				t.Errorf("Header %s has %s", hdr.Print(h), hdr.Print(other))
			}
			// One header alone: at each bit one of both ways has none.
			level, low, high := a.Node(f)
			if level != i || low != bdd.False && high != bdd.False {
				t.Fatalf("Header %s: bit %d: node %d, %d, %d", hdr.Print(h), i, level, low, high)
			}
			f = max(low, high)
		}
	}
}

// Errors: a nil arena is told ahead of all else that is wrong.
func TestNil(t *testing.T) {
	no := refused(t, api.ErrNil)
	no(enc.Prefix(nil, hdr.Dst, api.Prefix{}))
	no(enc.Prefix(nil, 7, api.Prefix{}))
	no(enc.Prefix(nil, hdr.Src, api.Prefix{Bits: -1}))
	no(enc.Prefix(nil, -1, api.Prefix{Bits: 33}))
	no(enc.Range(nil, hdr.SPort, allPorts))
	no(enc.Range(nil, hdr.Dst, allPorts))
	no(enc.Range(nil, hdr.DPort, api.Range{Low: 1}))
	no(enc.Range(nil, 104, api.Range{Low: 1}))
	no(enc.Filter(nil, filter.All()))
	no(enc.Filter(nil, api.Filter{Dst: api.Prefix{Bits: 33}}))
	no(enc.Filter(nil, api.Filter{Proto: 256}))
	no(enc.Filter(nil, api.Filter{SPort: api.Range{Low: 1}}))
	no(enc.Header(nil, api.Header{}))
	no(enc.Header(nil, allSet))
}

// Errors: fields that are none of the call's, also ahead of a prefix or a range that may not be.
func TestFields(t *testing.T) {
	a, no := arena(t, 1000), refused(t, api.ErrArg)
	none := []int{-1, 1, 8, 31, 33, 63, 64, 71, 73, 87, 89, 103, 104, 1 << 32, 1<<32 + 32, 1<<32 + 72, -1 << 32, math.MinInt, math.MaxInt}
	for _, field := range append(none, hdr.Proto, hdr.SPort, hdr.DPort) {
		no(enc.Prefix(a, field, api.Prefix{}))
		no(enc.Prefix(a, field, cidr.Of(10<<24, 8)))
		for _, p := range wrongPrefixes {
			no(enc.Prefix(a, field, p))
		}
	}
	for _, field := range append(none, hdr.Proto, hdr.Dst, hdr.Src) {
		no(enc.Range(a, field, allPorts))
		no(enc.Range(a, field, api.Range{Low: 80, High: 90}))
		for _, p := range wrongRanges {
			no(enc.Range(a, field, p))
		}
	}
	if a.Len() != 2 {
		t.Errorf("Len = %d behind errors", a.Len())
	}
}

// Errors: prefixes and ranges that may not be, and filters with one or several such things.
func TestMayNotBe(t *testing.T) {
	// An arena without room: what may not be is told ahead of that.
	for _, a := range []*bdd.Arena{arena(t, 1000), arena(t, 2)} {
		for _, p := range wrongPrefixes {
			no := refused(t, api.ErrPrefix)
			no(enc.Prefix(a, hdr.Dst, p))
			no(enc.Prefix(a, hdr.Src, p))
			no(enc.Filter(a, api.Filter{Dst: p}))
			no(enc.Filter(a, api.Filter{Src: p}))
			no(enc.Filter(a, api.Filter{Src: p, Proto: 256, SPort: api.Range{Low: 1}}))
		}
		for _, n := range []int{-2, 256, 1 << 32, 1<<32 + 6, math.MinInt, math.MaxInt} {
			no := refused(t, api.ErrRange)
			no(enc.Filter(a, api.Filter{Proto: n}))
			no(enc.Filter(a, api.Filter{Proto: n, DPort: api.Range{Low: 1}}))
		}
		for _, p := range wrongRanges {
			no := refused(t, api.ErrBounds)
			no(enc.Range(a, hdr.SPort, p))
			no(enc.Range(a, hdr.DPort, p))
			no(enc.Filter(a, api.Filter{SPort: p}))
			no(enc.Filter(a, api.Filter{DPort: p}))
		}
		if a.Len() != 2 {
			t.Errorf("Len = %d behind errors", a.Len())
		}
	}
}

// P7.2: a filter has the number that its set has, whichever way that is made, and whatever was made ahead.
func TestOneNumber(t *testing.T) {
	ok := sure(t)
	for _, f := range filters() {
		a, b := arena(t, api.MaxNodes), arena(t, api.MaxNodes)
		set := ok(enc.Filter(a, f))
		if g := bitByBit(t, a, f); g != set {
			t.Errorf("Filter %s = %d, bit by bit %d", filter.Print(f), set, g)
		}
		was := a.Len()
		if g := ok(enc.Filter(a, f)); g != set || a.Len() != was {
			t.Errorf("Filter %s again = %d, want %d: Len %d, want %d", filter.Print(f), g, set, a.Len(), was)
		}
		later := bitByBit(t, b, f)
		if g := ok(enc.Filter(b, f)); g != later {
			t.Errorf("Filter %s behind its set = %d, want %d", filter.Print(f), g, later)
		}
	}
}

// P7.2: filters written otherwise than what has the same headers: one field alone, a header alone, or read from a text.
func TestWrittenOtherwise(t *testing.T) {
	a, ok := arena(t, api.MaxNodes), sure(t)
	same := func(name string, f, g int) {
		t.Helper()
		if f != g {
			t.Errorf("%s: %d, want %d", name, f, g)
		}
	}
	for _, p := range prefixes() {
		dst, src := filter.All(), filter.All()
		dst.Dst, src.Src = p, p
		same("Dst "+cidr.Print(p), ok(enc.Filter(a, dst)), ok(enc.Prefix(a, hdr.Dst, p)))
		same("Src "+cidr.Print(p), ok(enc.Filter(a, src)), ok(enc.Prefix(a, hdr.Src, p)))
	}
	for _, p := range ranges() {
		sport, dport := filter.All(), filter.All()
		sport.SPort, dport.DPort = p, p
		same("SPort "+cidr.PrintRange(p), ok(enc.Filter(a, sport)), ok(enc.Range(a, hdr.SPort, p)))
		same("DPort "+cidr.PrintRange(p), ok(enc.Filter(a, dport)), ok(enc.Range(a, hdr.DPort, p)))
	}
	for _, h := range []api.Header{{}, allSet, {Dst: 10 << 24, Src: 1, Proto: 6, SPort: 1024, DPort: 80}} {
		one := api.Filter{Dst: cidr.Of(h.Dst, 32), Src: cidr.Of(h.Src, 32), Proto: int(h.Proto), SPort: api.Range{Low: h.SPort, High: h.SPort}, DPort: api.Range{Low: h.DPort, High: h.DPort}}
		same("Header "+hdr.Print(h), ok(enc.Filter(a, one)), ok(enc.Header(a, h)))
	}
	for _, f := range filters() {
		read, e := filter.Parse(filter.Print(f))
		if e != api.OK {
			t.Fatalf("Parse of %s: %d", filter.Print(f), e)
		}
		same("read "+filter.Print(f), ok(enc.Filter(a, read)), ok(enc.Filter(a, f)))
	}
}

// P7.2: both halves of a filter together are it; and filters that other headers pass have other numbers.
func TestFiltersApart(t *testing.T) {
	a, ok := arena(t, api.MaxNodes), sure(t)
	whole := api.Filter{Dst: cidr.Of(10<<24, 8), Proto: api.Any, SPort: allPorts, DPort: api.Range{Low: 81, High: 443}}
	left, right := whole, whole
	left.Dst, right.Dst = cidr.Of(10<<24, 9), cidr.Of(10<<24|1<<23, 9)
	low, high := whole, whole
	low.DPort.High, high.DPort.Low = 200, 201
	f := ok(enc.Filter(a, whole))
	for _, halves := range [][2]api.Filter{{left, right}, {low, high}} {
		if g := ok(a.Join(bdd.Or, ok(enc.Filter(a, halves[0])), ok(enc.Filter(a, halves[1])))); g != f {
			t.Errorf("both halves = %d, want %d", g, f)
		}
	}
	numbers := map[int]api.Filter{}
	for _, g := range append(filters(), whole, left, right, low, high) {
		set := ok(enc.Filter(a, g))
		// No two filters that may be are unlike, and have the same headers.
		if other, there := numbers[set]; there && other != g {
			t.Errorf("%s and %s: one number %d", filter.Print(g), filter.Print(other), set)
		}
		numbers[set] = g
	}
}
