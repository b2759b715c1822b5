package bdd_test

import (
	"math"
	"slices"
	"testing"

	"crossbuck/api"
	"crossbuck/bdd"
	"crossbuck/hdr"
)

// far are numbers that are no set, no kind and no bit anywhere.
var far = []int{-1, -2, -104, 1 << 18, 1<<18 + 1, 1 << 32, -1 << 32, math.MinInt, math.MaxInt}

// arena is one with room for so many nodes.
func arena(t *testing.T, most int) *bdd.Arena {
	t.Helper()
	a, e := bdd.New(most)
	if e != api.OK || a == nil {
		t.Fatalf("New(%d) = %v, %d", most, a, e)
	}
	return a
}

// sure is the set that a call answers, which must be OK.
func sure(t *testing.T) func(f int, e api.Errno) int {
	return func(f int, e api.Errno) int {
		t.Helper()
		if e != api.OK {
			t.Fatalf("error %d, want OK", e)
		}
		return f
	}
}

// refused says that a call must answer that error, and nothing else.
func refused(t *testing.T, want api.Errno) func(f int, e api.Errno) {
	return func(f int, e api.Errno) {
		t.Helper()
		if f != 0 || e != want {
			t.Errorf("answer %d, %d, want 0, %d", f, e, want)
		}
	}
}

// row is what Node tells.
type row struct{ level, low, high int }

// rows are all nodes of an arena, by their numbers.
func rows(a *bdd.Arena) []row {
	var out []row
	for f := range a.Len() {
		level, low, high := a.Node(f)
		out = append(out, row{level, low, high})
	}
	return out
}

// wantRows says that an arena must have these nodes, behind False and True.
func wantRows(t *testing.T, a *bdd.Arena, want ...row) {
	t.Helper()
	want = append([]row{{104, 0, 0}, {104, 1, 1}}, want...)
	if got := rows(a); !slices.Equal(got, want) {
		t.Errorf("nodes %v, want %v", got, want)
	}
}

// with is the header that has just these bits.
func with(bits ...int) api.Header {
	h := api.Header{}
	for _, i := range bits {
		h = hdr.With(h, i, true)
	}
	return h
}

// all are lits for each bit of a header.
func all(h api.Header) []bdd.Lit {
	var out []bdd.Lit
	for i := range api.Vars {
		out = append(out, bdd.Lit{Var: i, On: hdr.Bit(h, i)})
	}
	return out
}

// P6.1
func TestConstants(t *testing.T) {
	got := []int{bdd.False, bdd.True, bdd.And, bdd.Or, bdd.Xor, bdd.Diff}
	if want := []int{0, 1, 0, 1, 2, 3}; !slices.Equal(got, want) {
		t.Errorf("constants %v, want %v", got, want)
	}
}

// P6.1: the least and the greatest room, and one beyond.
func TestNewRoom(t *testing.T) {
	for _, most := range []int{2, 3, 100, 262143, 262144} {
		a := arena(t, most)
		if a.Len() != 2 || !a.Has(0) || !a.Has(1) || a.Has(2) {
			t.Errorf("New(%d): Len %d, Has %v %v %v", most, a.Len(), a.Has(0), a.Has(1), a.Has(2))
		}
		wantRows(t, a)
	}
	for _, most := range []int{1, 0, -1, -2, 262145, 1 << 32, 1<<32 + 2, math.MinInt, math.MaxInt} {
		if a, e := bdd.New(most); a != nil || e != api.ErrArg {
			t.Errorf("New(%d) = %v, %d", most, a, e)
		}
	}
}

// P6.1: two arenas have nothing in common.
func TestArenasApart(t *testing.T) {
	a, b := arena(t, 3), arena(t, 3)
	sure(t)(a.Var(5))
	if b.Len() != 2 || b.Has(2) {
		t.Errorf("another arena has %d nodes", b.Len())
	}
	sure(t)(b.Var(7))
	wantRows(t, a, row{5, 0, 1})
	wantRows(t, b, row{7, 0, 1})
}

// P6.1
func TestNode(t *testing.T) {
	a := arena(t, 10)
	f := sure(t)(a.Cube(bdd.Lit{Var: 3, On: true}, bdd.Lit{Var: 103}))
	wantRows(t, a, row{103, 1, 0}, row{3, 0, 2})
	if f != 3 || a.Len() != 4 {
		t.Errorf("Cube = %d, Len %d", f, a.Len())
	}
	for _, x := range append([]int{4, 5, 10}, far...) {
		if level, low, high := a.Node(x); level != 104 || low != 0 || high != 0 || a.Has(x) {
			t.Errorf("Node(%d) = %d %d %d, Has %v", x, level, low, high, a.Has(x))
		}
	}
	for x := range 4 {
		if !a.Has(x) {
			t.Errorf("Has(%d) is false", x)
		}
	}
}

// cutArena has the nodes 2 to 6: bit 103 set, bit 10 set and both, bit 103 not set, bit 10 not set.
func cutArena(t *testing.T) *bdd.Arena {
	a := arena(t, 10)
	sure(t)(a.Var(103))
	sure(t)(a.Var(10))
	sure(t)(a.Join(bdd.And, 2, 3))
	sure(t)(a.Not(2))
	sure(t)(a.Not(3))
	wantRows(t, a, row{103, 0, 1}, row{10, 0, 1}, row{10, 0, 2}, row{103, 1, 0}, row{10, 1, 0})
	return a
}

// P6.1: Cut at each number, below 2 and beyond the end.
func TestCut(t *testing.T) {
	for _, x := range []struct{ n, left int }{
		{math.MinInt, 2}, {-1, 2}, {0, 2}, {1, 2}, {2, 2}, {3, 3}, {4, 4}, {5, 5}, {6, 6}, {7, 7}, {8, 7}, {100, 7}, {math.MaxInt, 7},
	} {
		a := cutArena(t)
		ahead := rows(a)
		a.Cut(x.n)
		if a.Len() != x.left || !slices.Equal(rows(a), ahead[:x.left]) {
			t.Errorf("Cut(%d): %v", x.n, rows(a))
		}
		for f := range ahead {
			if a.Has(f) != (f < x.left) {
				t.Errorf("Cut(%d): Has(%d) = %v", x.n, f, a.Has(f))
			}
		}
		for f := x.left; f < len(ahead); f++ {
			if level, low, high := a.Node(f); level != 104 || low != 0 || high != 0 || a.In(f, with(10, 103)) || a.In(f, with()) {
				t.Errorf("Cut(%d): %d is still there: %d %d %d", x.n, f, level, low, high)
			}
			refused(t, api.ErrArg)(a.Not(f))
		}
	}
}

// P6.1, P6.4: what is made behind a Cut has the numbers from there on, be it what was there or something else.
func TestMadeBehindCut(t *testing.T) {
	a := cutArena(t)
	a.Cut(3)
	if f := sure(t)(a.Var(50)); f != 3 {
		t.Errorf("Var(50) = %d, want 3", f)
	}
	if f := sure(t)(a.Var(10)); f != 4 {
		t.Errorf("Var(10) = %d, want 4", f)
	}
	if f := sure(t)(a.Var(103)); f != 2 {
		t.Errorf("Var(103) = %d, want 2", f)
	}
	wantRows(t, a, row{103, 0, 1}, row{50, 0, 1}, row{10, 0, 1})
	if !a.In(3, with(50)) || a.In(3, with(10)) || !a.In(4, with(10)) || a.In(4, with(50)) {
		t.Error("the sets behind the cut are others")
	}
	a.Cut(0)
	a.Cut(0)
	wantRows(t, a)
	for i := range 8 {
		if f := sure(t)(a.Var(i)); f != 2+i {
			t.Errorf("Var(%d) = %d", i, f)
		}
	}
	refused(t, api.ErrFull)(a.Var(8))
}

// P6.1: what was joined ahead of a Cut isn't taken for what is joined behind it.
func TestJoinedBehindCut(t *testing.T) {
	a := arena(t, 100)
	x, y := sure(t)(a.Var(1)), sure(t)(a.Var(2))
	both := sure(t)(a.Join(bdd.And, x, y))
	sure(t)(a.Restrict(both, 1, true))
	a.Cut(y)
	z := sure(t)(a.Var(7))
	if z != y {
		t.Fatalf("Var(7) = %d, want %d", z, y)
	}
	f := sure(t)(a.Join(bdd.And, x, z))
	if !a.In(f, with(1, 7)) || a.In(f, with(1, 2)) {
		t.Error("the join is of what was cut")
	}
	if g := sure(t)(a.Restrict(f, 1, true)); g != z {
		t.Errorf("Restrict = %d, want %d", g, z)
	}
}

// R1, P6.1: each call on a nil arena.
func TestNil(t *testing.T) {
	var a *bdd.Arena
	a.Cut(0)
	a.Cut(5)
	if a.Len() != 0 {
		t.Errorf("Len = %d", a.Len())
	}
	no := refused(t, api.ErrNil)
	for _, f := range append([]int{0, 1, 2, 104}, far...) {
		if a.Has(f) || a.In(f, api.Header{}) {
			t.Errorf("Has(%d), In(%d) = %v, %v", f, f, a.Has(f), a.In(f, api.Header{}))
		}
		if level, low, high := a.Node(f); level != 104 || low != 0 || high != 0 {
			t.Errorf("Node(%d) = %d %d %d", f, level, low, high)
		}
		no(a.Cube(bdd.Lit{Var: f, On: true}))
		no(a.Cube(bdd.Lit{Var: f}, bdd.Lit{Var: f}))
		no(a.Var(f))
		no(a.Join(f, f, f))
		no(a.Join(bdd.And, f, f))
		no(a.Not(f))
		no(a.Ite(f, f, f))
		no(a.Restrict(f, f, true))
		no(a.Restrict(f, 0, false))
	}
	no(a.Cube())
}

// R1: an arena that New didn't make.
func TestZeroArena(t *testing.T) {
	a := &bdd.Arena{}
	for _, f := range append([]int{0, 1, 2, 103}, far...) {
		a.Has(f)
		a.Node(f)
		a.In(f, api.Header{})
		a.Cube()
		a.Cube(bdd.Lit{Var: f, On: true})
		a.Var(f)
		a.Join(bdd.Or, f, f)
		a.Not(f)
		a.Ite(f, f, f)
		a.Restrict(f, 0, true)
		a.Cut(f)
		a.Len()
	}
}

// P6.2: numbers that are no set's are refused at each place, and nothing is new.
func TestWrongSets(t *testing.T) {
	a := cutArena(t)
	cut := a.Len() - 1
	a.Cut(cut)
	ahead := rows(a)
	no := refused(t, api.ErrArg)
	for _, f := range append([]int{cut, cut + 1}, far...) {
		for kind := range 4 {
			no(a.Join(kind, f, 2))
			no(a.Join(kind, 2, f))
			no(a.Join(kind, f, f))
			no(a.Join(kind, bdd.False, f))
			no(a.Join(kind, f, bdd.True))
		}
		no(a.Not(f))
		no(a.Ite(f, 2, 3))
		no(a.Ite(2, f, 3))
		no(a.Ite(2, 3, f))
		no(a.Ite(bdd.True, 2, f))
		no(a.Ite(bdd.False, f, 2))
		no(a.Restrict(f, 10, true))
		no(a.Restrict(f, 10, false))
		no(a.Restrict(f, 104, false))
		if a.In(f, with(10, 103)) || a.In(f, api.Header{}) {
			t.Errorf("In(%d) is true", f)
		}
	}
	if !slices.Equal(rows(a), ahead) {
		t.Errorf("nodes %v, want %v", rows(a), ahead)
	}
}

// P6.2: kinds and bits that are none.
func TestWrongKindsAndBits(t *testing.T) {
	a := cutArena(t)
	no := refused(t, api.ErrArg)
	for _, kind := range append([]int{4, 5}, far...) {
		no(a.Join(kind, 2, 3))
		no(a.Join(kind, 0, 0))
		no(a.Join(kind, 2, 100))
	}
	for _, i := range append([]int{104, 105}, far...) {
		no(a.Var(i))
		no(a.Cube(bdd.Lit{Var: i, On: true}))
		no(a.Cube(bdd.Lit{Var: i}))
		no(a.Cube(bdd.Lit{Var: 0, On: true}, bdd.Lit{Var: i, On: true}))
		no(a.Cube(bdd.Lit{Var: i, On: true}, bdd.Lit{Var: 103, On: true}))
		for _, f := range []int{0, 1, 2, 4} {
			no(a.Restrict(f, i, true))
			no(a.Restrict(f, i, false))
		}
	}
	if a.Len() != 7 {
		t.Errorf("Len = %d", a.Len())
	}
	// What is wrong comes ahead of ErrFull.
	b := arena(t, 2)
	no(b.Var(104))
	no(b.Cube(bdd.Lit{Var: 1}, bdd.Lit{Var: 0}))
	no(b.Join(4, 0, 1))
	no(b.Restrict(2, 0, true))
}

// P6.2: bits that don't rise.
func TestCubeMustRise(t *testing.T) {
	a := arena(t, 200)
	no := refused(t, api.ErrArg)
	for _, bits := range [][]int{{0, 0}, {103, 103}, {1, 0}, {0, 2, 1}, {0, 2, 2}, {5, 5, 6}, {7, 6, 8}, {-1, 0}, {103, 104}} {
		var l []bdd.Lit
		for i, b := range bits {
			l = append(l, bdd.Lit{Var: b, On: i%2 == 0})
		}
		no(a.Cube(l...))
	}
	no(a.Cube(append(all(with()), bdd.Lit{Var: 103})...))
	no(a.Cube(append(all(with()), bdd.Lit{Var: 104})...))
	if a.Len() != 2 {
		t.Errorf("Len = %d", a.Len())
	}
}

// P6.2, P6.4: a Cube's nodes are made from the last bit on; those that are there stay what they are.
func TestCube(t *testing.T) {
	a := arena(t, 200)
	if f := sure(t)(a.Cube()); f != bdd.True {
		t.Errorf("Cube() = %d", f)
	}
	if f := sure(t)(a.Cube([]bdd.Lit{}...)); f != bdd.True {
		t.Errorf("Cube of an empty list = %d", f)
	}
	l := []bdd.Lit{{Var: 0, On: true}, {Var: 40}, {Var: 103, On: true}, {Var: 1, On: true}}
	before := slices.Clone(l)
	if f := sure(t)(a.Cube(l[:3]...)); f != 4 {
		t.Errorf("Cube = %d, want 4", f)
	}
	if !slices.Equal(l, before) {
		t.Errorf("the list is now %v", l)
	}
	wantRows(t, a, row{103, 0, 1}, row{40, 2, 0}, row{0, 0, 3})
	if f := sure(t)(a.Cube(bdd.Lit{Var: 39}, bdd.Lit{Var: 40}, bdd.Lit{Var: 103, On: true})); f != 5 {
		t.Errorf("Cube = %d, want 5", f)
	}
	wantRows(t, a, row{103, 0, 1}, row{40, 2, 0}, row{0, 0, 3}, row{39, 3, 0})
	for _, x := range []struct {
		h    api.Header
		want bool
	}{
		{with(0, 103), true}, {with(0, 1, 2, 39, 41, 102, 103), true}, {with(0), false}, {with(103), false}, {with(0, 40, 103), false}, {with(), false},
	} {
		if a.In(4, x.h) != x.want {
			t.Errorf("In(%v) = %v", x.h, !x.want)
		}
	}
}

// P6.2: a Cube of all bits has one header alone.
func TestCubeOfAllBits(t *testing.T) {
	for _, h := range []api.Header{
		{}, with(0), with(103),
		{Dst: 167772161, Src: 16909060, Proto: 6, SPort: 80, DPort: 443},
		{Dst: math.MaxUint32, Src: math.MaxUint32, Proto: math.MaxUint8, SPort: math.MaxUint16, DPort: math.MaxUint16},
	} {
		a := arena(t, 106)
		f := sure(t)(a.Cube(all(h)...))
		if f != 105 || a.Len() != 106 || !a.In(f, h) {
			t.Errorf("Cube of %v = %d, Len %d, In %v", h, f, a.Len(), a.In(f, h))
		}
		for i := range api.Vars {
			if a.In(f, hdr.With(h, i, !hdr.Bit(h, i))) {
				t.Errorf("Cube of %v has one with another bit %d", h, i)
			}
		}
		b := arena(t, 105)
		refused(t, api.ErrFull)(b.Cube(all(h)...))
		if b.Len() != 2 {
			t.Errorf("Len behind ErrFull = %d", b.Len())
		}
	}
}

// P6.2: Var of each bit.
func TestVar(t *testing.T) {
	a := arena(t, 106)
	for i := range api.Vars {
		if f := sure(t)(a.Var(i)); f != 2+i {
			t.Errorf("Var(%d) = %d", i, f)
		}
		if level, low, high := a.Node(2 + i); level != i || low != 0 || high != 1 {
			t.Errorf("Var(%d) is %d %d %d", i, level, low, high)
		}
	}
	for i := range api.Vars {
		if f := sure(t)(a.Cube(bdd.Lit{Var: i, On: true})); f != 2+i {
			t.Errorf("Cube of bit %d = %d", i, f)
		}
		for k := range api.Vars {
			if a.In(2+i, with(k)) != (i == k) {
				t.Errorf("Var(%d) of a header with bit %d: %v", i, k, i != k)
			}
		}
	}
}

// P6.2: the four kinds of False and True.
func TestJoinOfEnds(t *testing.T) {
	a := arena(t, 2)
	for kind, want := range [][4]int{{0, 0, 0, 1}, {0, 1, 1, 1}, {0, 1, 1, 0}, {0, 0, 1, 0}} {
		for i, w := range want {
			if f := sure(t)(a.Join(kind, i/2, i%2)); f != w {
				t.Errorf("Join(%d, %d, %d) = %d, want %d", kind, i/2, i%2, f, w)
			}
		}
	}
	for i := range 8 {
		f, g, h := i/4, i/2%2, i%2
		want := h
		if f == 1 {
			want = g
		}
		if x := sure(t)(a.Ite(f, g, h)); x != want {
			t.Errorf("Ite(%d, %d, %d) = %d", f, g, h, x)
		}
	}
	for f := range 2 {
		if x := sure(t)(a.Not(f)); x != 1-f {
			t.Errorf("Not(%d) = %d", f, x)
		}
		for _, on := range []bool{false, true} {
			if x := sure(t)(a.Restrict(f, 0, on)); x != f {
				t.Errorf("Restrict(%d, 0, %v) = %d", f, on, x)
			}
		}
		if a.In(f, with(3)) != (f == 1) || a.In(f, with()) != (f == 1) {
			t.Errorf("In(%d) is wrong", f)
		}
	}
	wantRows(t, a)
}

// P6.2: Restrict asks as if the bit were so, whether it is or not; the answer no longer asks for it.
func TestRestrict(t *testing.T) {
	a := arena(t, 100)
	l := []bdd.Lit{{Var: 3, On: true}, {Var: 50, On: true}, {Var: 103}}
	f := sure(t)(a.Cube(l...))
	for _, x := range []struct {
		bit  int
		on   bool
		want []bdd.Lit
	}{
		{3, true, l[1:]}, {50, true, []bdd.Lit{l[0], l[2]}}, {103, false, l[:2]},
		{0, true, l}, {0, false, l}, {4, true, l}, {102, false, l},
	} {
		g := sure(t)(a.Restrict(f, x.bit, x.on))
		if want := sure(t)(a.Cube(x.want...)); g != want {
			t.Errorf("Restrict(%d, %v) = %d, want %d", x.bit, x.on, g, want)
		}
		for _, h := range []api.Header{with(), with(3, 50), with(3, 50, 103), with(3), with(50), with(3, 4, 50, 102)} {
			if a.In(g, h) != a.In(f, hdr.With(h, x.bit, x.on)) {
				t.Errorf("Restrict(%d, %v): In(%v) = %v", x.bit, x.on, h, a.In(g, h))
			}
		}
	}
	for _, x := range []bdd.Lit{{Var: 3}, {Var: 50}, {Var: 103, On: true}} {
		if g := sure(t)(a.Restrict(f, x.Var, x.On)); g != bdd.False {
			t.Errorf("Restrict(%v) = %d", x, g)
		}
	}
}

// P6.3: sets that are one by two ways.
func TestOneNumber(t *testing.T) {
	a := arena(t, 1000)
	ok := sure(t)
	x, y, z := ok(a.Var(0)), ok(a.Var(40)), ok(a.Var(103))
	notX, notY := ok(a.Not(x)), ok(a.Not(y))
	and, or := ok(a.Join(bdd.And, x, y)), ok(a.Join(bdd.Or, x, y))
	xor, diff := ok(a.Join(bdd.Xor, x, y)), ok(a.Join(bdd.Diff, x, y))
	for i, p := range [][2]int{
		{ok(a.Join(bdd.And, x, notX)), bdd.False},
		{ok(a.Join(bdd.Or, x, notX)), bdd.True},
		{ok(a.Join(bdd.Xor, x, notX)), bdd.True},
		{ok(a.Join(bdd.Diff, x, x)), bdd.False},
		{ok(a.Not(notX)), x},
		{ok(a.Cube(bdd.Lit{Var: 40})), notY},
		{ok(a.Join(bdd.And, y, x)), and},
		{ok(a.Cube(bdd.Lit{Var: 0, On: true}, bdd.Lit{Var: 40, On: true})), and},
		{ok(a.Not(ok(a.Join(bdd.And, notX, notY)))), or},
		{ok(a.Join(bdd.Diff, or, and)), xor},
		{ok(a.Join(bdd.And, x, notY)), diff},
		{ok(a.Ite(x, notY, y)), xor},
		{ok(a.Ite(x, y, bdd.False)), and},
		{ok(a.Ite(x, bdd.True, y)), or},
		{ok(a.Ite(x, bdd.False, bdd.True)), notX},
		{ok(a.Ite(x, y, y)), y},
		{ok(a.Restrict(xor, 0, true)), notY},
		{ok(a.Restrict(xor, 0, false)), y},
		{ok(a.Restrict(and, 40, true)), x},
		{ok(a.Join(bdd.And, x, ok(a.Join(bdd.Or, y, z)))), ok(a.Join(bdd.Or, and, ok(a.Join(bdd.And, x, z))))},
		{ok(a.Join(bdd.Xor, ok(a.Join(bdd.Xor, x, z)), z)), x},
	} {
		if p[0] != p[1] {
			t.Errorf("way %d: %d and %d", i, p[0], p[1])
		}
	}
	seen := map[int]int{}
	for i, f := range []int{0, 1, x, y, z, notX, notY, and, or, xor, diff} {
		if other, there := seen[f]; there {
			t.Errorf("unlike sets %d and %d have the number %d", other, i, f)
		}
		seen[f] = i
	}
}

// P6.3: what there is stays, with its nodes and its headers, whatever is made behind.
func TestStays(t *testing.T) {
	a := cutArena(t)
	ahead := rows(a)
	heads := []api.Header{with(), with(10), with(103), with(10, 103)}
	var in []bool
	for f := range ahead {
		for _, h := range heads {
			in = append(in, a.In(f, h))
		}
	}
	sure(t)(a.Join(bdd.Xor, 2, 3))
	sure(t)(a.Var(0))
	refused(t, api.ErrFull)(a.Cube(all(with())...))
	refused(t, api.ErrArg)(a.Var(104))
	var later []bool
	for f := range ahead {
		for _, h := range heads {
			later = append(later, a.In(f, h))
		}
	}
	if got := rows(a); !slices.Equal(got[:len(ahead)], ahead) || !slices.Equal(in, later) {
		t.Errorf("nodes %v, want %v ahead; In %v, want %v", got, ahead, later, in)
	}
}

// P6.4: parts ahead of what they are of, low ahead of high.
func TestOrder(t *testing.T) {
	ok := sure(t)
	a := arena(t, 100)
	x, y := ok(a.Var(1)), ok(a.Var(2))
	ok(a.Join(bdd.Xor, x, y))
	wantRows(t, a, row{1, 0, 1}, row{2, 0, 1}, row{2, 1, 0}, row{1, 3, 4})

	// Both parts are new: what is low is made first.
	a = arena(t, 100)
	f := ok(a.Cube(bdd.Lit{Var: 0, On: true}, bdd.Lit{Var: 9, On: true}))
	g := ok(a.Cube(bdd.Lit{Var: 0}, bdd.Lit{Var: 5, On: true}))
	ok(a.Not(ok(a.Join(bdd.Or, f, g))))
	wantRows(t, a, row{9, 0, 1}, row{0, 0, 2}, row{5, 0, 1}, row{0, 4, 0}, row{0, 4, 2}, row{5, 1, 0}, row{9, 1, 0}, row{0, 7, 8})

	// Restrict makes what is above the bit anew.
	a = arena(t, 100)
	f = ok(a.Cube(bdd.Lit{Var: 1, On: true}, bdd.Lit{Var: 2, On: true}, bdd.Lit{Var: 3, On: true}, bdd.Lit{Var: 4, On: true}))
	if g := ok(a.Restrict(f, 3, true)); g != 7 {
		t.Errorf("Restrict = %d, want 7", g)
	}
	wantRows(t, a, row{4, 0, 1}, row{3, 0, 2}, row{2, 0, 3}, row{1, 0, 4}, row{2, 0, 2}, row{1, 0, 6})
}

// P6.4: Ite makes what three joins make, one behind the other, with what isn't in its answer.
func TestIteAsJoins(t *testing.T) {
	ok := sure(t)
	a := arena(t, 100)
	f, g, h := ok(a.Var(1)), ok(a.Var(2)), ok(a.Var(3))
	if r := ok(a.Ite(f, g, h)); r != 7 {
		t.Errorf("Ite = %d, want 7", r)
	}
	wantRows(t, a, row{1, 0, 1}, row{2, 0, 1}, row{3, 0, 1}, row{1, 0, 3}, row{1, 4, 0}, row{1, 4, 3})
	// Here the joins need more than the answer, which is there.
	b := arena(t, 5)
	f, g = ok(b.Var(1)), ok(b.Var(2))
	if r := ok(b.Ite(bdd.True, g, g)); r != g || b.Len() != 4 {
		t.Errorf("Ite = %d, Len %d", r, b.Len())
	}
	refused(t, api.ErrFull)(b.Ite(f, g, g))
	if b.Len() != 4 {
		t.Errorf("Len behind ErrFull = %d", b.Len())
	}
	c := arena(t, 6)
	f, g = ok(c.Var(1)), ok(c.Var(2))
	if r := ok(c.Ite(f, g, g)); r != g {
		t.Errorf("Ite = %d, want %d", r, g)
	}
	wantRows(t, c, row{1, 0, 1}, row{2, 0, 1}, row{1, 0, 3}, row{1, 3, 0})
}
