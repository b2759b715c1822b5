package sat_test

import (
	"math"
	"testing"

	"crossbuck/api"
	"crossbuck/bdd"
	"crossbuck/hdr"
	"crossbuck/sat"
	"crossbuck/wide"
)

// allSet is the header whose bits are all set.
var allSet = api.Header{Dst: math.MaxUint32, Src: math.MaxUint32, Proto: math.MaxUint8, SPort: math.MaxUint16, DPort: math.MaxUint16}

// far are numbers that are no set's anywhere.
var far = []int{-1, -2, -104, 1 << 18, 1<<18 + 1, 1 << 32, 1<<32 + 1, -1 << 32, math.MinInt, math.MaxInt}

// arena is one with room for so many nodes.
func arena(t *testing.T, most int) *bdd.Arena {
	t.Helper()
	a, e := bdd.New(most)
	if e != api.OK || a == nil {
		t.Fatalf("New(%d) = %v, %d", most, a, e)
	}
	return a
}

// sure is the set that a call answers, which must be OK.
func sure(t *testing.T) func(f int, e api.Errno) int {
	return func(f int, e api.Errno) int {
		t.Helper()
		if e != api.OK {
			t.Fatalf("error %d, want OK", e)
		}
		return f
	}
}

// header are lits for each bit of a header.
func header(h api.Header) []bdd.Lit {
	var out []bdd.Lit
	for i := range api.Vars {
		out = append(out, bdd.Lit{Var: i, On: hdr.Bit(h, i)})
	}
	return out
}

// on are lits of bits that are set.
func on(bits ...int) []bdd.Lit {
	var out []bdd.Lit
	for _, i := range bits {
		out = append(out, bdd.Lit{Var: i, On: true})
	}
	return out
}

// with is a header with bits set, or not.
func with(h api.Header, so bool, bits ...int) api.Header {
	for _, i := range bits {
		h = hdr.With(h, i, so)
	}
	return h
}

// wantCount says how many headers a set must have.
func wantCount(t *testing.T, a *bdd.Arena, f int, want wide.Count) {
	t.Helper()
	if got := sat.Count(a, f); got != want {
		t.Errorf("Count(%d) = %s, want %s", f, got.Print(), want.Print())
	}
}

// wantEnds says which a set's least and greatest header must be.
func wantEnds(t *testing.T, a *bdd.Arena, f int, least, most api.Header) {
	t.Helper()
	if h, ok := sat.Least(a, f); h != least || !ok {
		t.Errorf("Least(%d) = %s, %v, want %s", f, hdr.Print(h), ok, hdr.Print(least))
	}
	if h, ok := sat.Most(a, f); h != most || !ok {
		t.Errorf("Most(%d) = %s, %v, want %s", f, hdr.Print(h), ok, hdr.Print(most))
	}
}

// wantNone says that a number must have no header, neither least nor greatest.
func wantNone(t *testing.T, a *bdd.Arena, f int) {
	t.Helper()
	wantCount(t, a, f, wide.Count{})
	if h, ok := sat.Least(a, f); h != (api.Header{}) || ok {
		t.Errorf("Least(%d) = %s, %v", f, hdr.Print(h), ok)
	}
	if h, ok := sat.Most(a, f); h != (api.Header{}) || ok {
		t.Errorf("Most(%d) = %s, %v", f, hdr.Print(h), ok)
	}
}

// wantNodes says how many nodes sets must have.
func wantNodes(t *testing.T, a *bdd.Arena, want int, sets ...int) {
	t.Helper()
	if got := sat.Nodes(a, sets...); got != want {
		t.Errorf("Nodes(%v) = %d, want %d", sets, got, want)
	}
}

// wantWithin says whether a set must be another one's.
func wantWithin(t *testing.T, a *bdd.Arena, f, g int, want bool) {
	t.Helper()
	if got := sat.Within(a, f, g); got != want {
		t.Errorf("Within(%d, %d) = %v, want %v", f, g, got, want)
	}
}

// P8.1, P8.2: the sets without a node.
func TestFalseAndTrue(t *testing.T) {
	a := arena(t, 2)
	wantNone(t, a, bdd.False)
	wantCount(t, a, bdd.True, wide.Pow(104))
	if got := sat.Count(a, bdd.True).Print(); got != "20282409603651670423947251286016" {
		t.Errorf("Count of True = %s", got)
	}
	wantEnds(t, a, bdd.True, api.Header{}, allSet)
	wantNodes(t, a, 0, bdd.False)
	wantNodes(t, a, 0, bdd.True, bdd.False, bdd.True)
	wantWithin(t, a, bdd.False, bdd.False, true)
	wantWithin(t, a, bdd.False, bdd.True, true)
	wantWithin(t, a, bdd.True, bdd.True, true)
	wantWithin(t, a, bdd.True, bdd.False, false)
}

// P8.1, P8.2: the example; and each bit, set or not, with all others ahead and behind free.
func TestVars(t *testing.T) {
	a, ok := arena(t, 1000), sure(t)
	f := ok(a.Var(0))
	wantCount(t, a, f, wide.Pow(103))
	if h, there := sat.Least(a, f); !there || hdr.Print(h) != "128.0.0.0 0.0.0.0 0 0 0" {
		t.Errorf("Least of Var(0) = %s, %v", hdr.Print(h), there)
	}
	for i := range api.Vars {
		f := ok(a.Var(i))
		g := ok(a.Not(f))
		wantCount(t, a, f, wide.Pow(103))
		wantCount(t, a, g, wide.Pow(103))
		wantEnds(t, a, f, with(api.Header{}, true, i), allSet)
		wantEnds(t, a, g, api.Header{}, with(allSet, false, i))
		wantNodes(t, a, 1, f)
		wantNodes(t, a, 2, f, g)
		wantWithin(t, a, f, g, false)
		wantWithin(t, a, g, f, false)
	}
}

// P8.1, P8.2: sets whose bits have gaps between them, and ahead of the first.
func TestGaps(t *testing.T) {
	a, ok := arena(t, 1000), sure(t)
	for _, bits := range [][]int{{103}, {3, 103}, {0, 103}, {5, 40, 70}, {31, 32}, {63, 64, 71, 72, 87, 88}, {1, 2, 50, 102}} {
		f := ok(a.Cube(on(bits...)...))
		wantCount(t, a, f, wide.Pow(104-len(bits)))
		wantEnds(t, a, f, with(api.Header{}, true, bits...), allSet)
		wantNodes(t, a, len(bits), f)
		// All but these: the greatest is the one whose last bit of them isn't set.
		g := ok(a.Not(f))
		wantCount(t, a, g, wide.Pow(104).Sub(wide.Pow(104-len(bits))))
		wantEnds(t, a, g, api.Header{}, with(allSet, false, bits[len(bits)-1]))
		wantNodes(t, a, len(bits), g)
	}
	// A node whose parts begin at other bits: 10, and 90, or not 10, and 20.
	f := ok(a.Ite(ok(a.Var(10)), ok(a.Var(90)), ok(a.Cube(on(20)...))))
	wantCount(t, a, f, wide.Pow(103))
	wantEnds(t, a, f, with(api.Header{}, true, 20), allSet)
	wantNodes(t, a, 3, f)
	// And one that ends at one side at once: 10, or 20 and 103, which is 2^103 and 2^101.
	g := ok(a.Join(bdd.Or, ok(a.Var(10)), ok(a.Cube(on(20, 103)...))))
	wantCount(t, a, g, wide.Pow(103).Add(wide.Pow(101)))
	wantEnds(t, a, g, with(api.Header{}, true, 20, 103), allSet)
	// Just one of two bits: the least has the later one, the greatest the earlier one.
	x := ok(a.Join(bdd.Xor, ok(a.Var(7)), ok(a.Var(99))))
	wantCount(t, a, x, wide.Pow(103))
	wantEnds(t, a, x, with(api.Header{}, true, 99), with(allSet, false, 99))
	wantNodes(t, a, 3, x)
}

// P8.1, P8.2: one header alone is the least and the greatest.
func TestOneHeader(t *testing.T) {
	for _, h := range []api.Header{{}, allSet, {Dst: 10<<24 | 1, Src: 1 << 31, Proto: 6, SPort: 1024, DPort: 80}, {DPort: 1}, {Dst: 1 << 31}} {
		a, ok := arena(t, 1000), sure(t)
		f := ok(a.Cube(header(h)...))
		wantCount(t, a, f, wide.Of(1))
		wantEnds(t, a, f, h, h)
		wantNodes(t, a, 104, f)
		other := hdr.With(h, 50, !hdr.Bit(h, 50))
		both := ok(a.Join(bdd.Or, f, ok(a.Cube(header(other)...))))
		wantCount(t, a, both, wide.Of(2))
		least, most := h, other
		if hdr.Compare(h, other) > 0 {
			least, most = other, h
		}
		wantEnds(t, a, both, least, most)
		wantWithin(t, a, f, both, true)
		wantWithin(t, a, both, f, false)
		but := ok(a.Not(f))
		wantCount(t, a, but, wide.Pow(104).Sub(wide.Of(1)))
		wantWithin(t, a, f, but, false)
		wantWithin(t, a, besides(t, a, both, f), but, true)
	}
}

// besides is what a set has that another one hasn't.
func besides(t *testing.T, a *bdd.Arena, f, g int) int { return sure(t)(a.Join(bdd.Diff, f, g)) }

// P8.1: no set, one set twice, and sets that share nodes.
func TestNodes(t *testing.T) {
	a, ok := arena(t, 1000), sure(t)
	wantNodes(t, a, 0)
	long := ok(a.Cube(on(1, 2, 3, 4)...))
	short := ok(a.Cube(on(3, 4)...))
	apart := ok(a.Cube(on(3, 5)...))
	last := ok(a.Var(4))
	wantNodes(t, a, 4, long)
	wantNodes(t, a, 4, long, long)
	wantNodes(t, a, 4, long, long, long, bdd.True, bdd.False)
	wantNodes(t, a, 2, short)
	wantNodes(t, a, 4, long, short)
	wantNodes(t, a, 4, short, last, long)
	wantNodes(t, a, 2, apart)
	wantNodes(t, a, 6, long, apart)
	wantNodes(t, a, 4, short, apart)
	wantNodes(t, a, 3, apart, last)
	// All of it: the nodes that there are, but for False and True.
	var all []int
	for f := range a.Len() {
		all = append(all, f)
	}
	wantNodes(t, a, a.Len()-2, all...)
	// R3: what is handed in stays, and so does the room behind its end.
	sets := []int{long, short, apart, last}
	sat.Nodes(a, sets[:2]...)
	if sets[0] != long || sets[1] != short || sets[2] != apart || sets[3] != last {
		t.Errorf("Nodes changed what it was handed: %v", sets)
	}
}

// P8.2: a set and itself, a part of it, and sets that meet or don't.
func TestWithin(t *testing.T) {
	a, ok := arena(t, 1000), sure(t)
	x, y := ok(a.Var(10)), ok(a.Var(90))
	both, one := ok(a.Join(bdd.And, x, y)), ok(a.Join(bdd.Or, x, y))
	notX := ok(a.Not(x))
	xor := ok(a.Join(bdd.Xor, x, y))
	for f := range a.Len() {
		wantWithin(t, a, f, f, true)
		wantWithin(t, a, bdd.False, f, true)
		wantWithin(t, a, f, bdd.True, true)
		wantWithin(t, a, f, bdd.False, f == bdd.False)
		wantWithin(t, a, bdd.True, f, f == bdd.True)
	}
	for _, w := range []struct {
		f, g int
		want bool
	}{
		{both, x, true}, {both, y, true}, {both, one, true}, {x, one, true}, {y, one, true}, {xor, one, true},
		{x, both, false}, {y, both, false}, {one, both, false}, {one, x, false}, {one, y, false}, {one, xor, false},
		{x, y, false}, {y, x, false}, {x, notX, false}, {both, notX, false}, {both, xor, false}, {xor, both, false},
		{ok(a.Join(bdd.Diff, y, x)), notX, true}, {notX, ok(a.Join(bdd.Diff, y, x)), false},
	} {
		wantWithin(t, a, w.f, w.g, w.want)
	}
}

// Numbers that are no set's: 0, none, false, beside sets, too.
func TestNoSets(t *testing.T) {
	a, ok := arena(t, 1000), sure(t)
	f := ok(a.Cube(on(1, 2)...))
	for _, n := range append(far, a.Len(), a.Len()+1, 999, 1000) {
		wantNone(t, a, n)
		wantNodes(t, a, 0, n)
		wantNodes(t, a, 2, n, f, n)
		for _, g := range []int{bdd.False, bdd.True, f, n, -7} {
			wantWithin(t, a, n, g, false)
			wantWithin(t, a, g, n, false)
		}
	}
	// What was cut is no set's any longer.
	a.Cut(f)
	wantNone(t, a, f)
	wantNodes(t, a, 0, f)
	wantNodes(t, a, 1, f, f-1)
	wantWithin(t, a, f, f, false)
	wantWithin(t, a, f, bdd.True, false)
	wantWithin(t, a, bdd.False, f, false)
}

// A nil arena, and one that New didn't make, have no sets at all.
func TestNil(t *testing.T) {
	for _, a := range []*bdd.Arena{nil, {}} {
		for _, n := range append(far, bdd.False, bdd.True, 2, 3) {
			wantNone(t, a, n)
			wantNodes(t, a, 0, n, n)
			for _, g := range []int{bdd.False, bdd.True, 2, n} {
				wantWithin(t, a, n, g, false)
				wantWithin(t, a, g, n, false)
			}
		}
		wantNodes(t, a, 0)
	}
}
