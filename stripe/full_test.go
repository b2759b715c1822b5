package stripe_test

import (
	"testing"

	"crossbuck/api"
	"crossbuck/bdd"
	"crossbuck/stripe"
)

// sides are two sets of several nodes each, the nodes 2 to 9.
func sides(t *testing.T, x *stripe.Table) (f, g int) {
	t.Helper()
	w := x.Worker(100)
	for _, bits := range [][]int{{103, 64, 0}, {88, 32}} {
		f, g = g, bdd.True
		for _, i := range bits {
			g = sure(t)(w.Join(bdd.And, sure(t)(w.Var(i, true)), g))
		}
	}
	return f, g
}

// P9.2: tables that are just full, and each that is short: then those that it needed and had room for may be new, and no others.
func TestJustFullAndShort(t *testing.T) {
	for kind := range 4 {
		wide := table(t, 1000)
		f, g := sides(t, wide)
		had := wide.Len()
		want := sure(t)(wide.Worker(5).Join(kind, f, g))
		made := wide.Len() - had
		if made < 2 {
			t.Fatalf("kind %d makes %d nodes", kind, made)
		}
		just := table(t, had+made)
		sides(t, just)
		if r := sure(t)(just.Worker(5).Join(kind, f, g)); r != want || just.Len() != had+made {
			t.Errorf("just full: %d, want %d, Len %d", r, want, just.Len())
		}
		for short := range made {
			x := table(t, had+short)
			sides(t, x)
			w := x.Worker(5)
			for range 2 {
				refused(t, api.ErrFull)(w.Join(kind, f, g))
				if x.Len() != had+short || w.Hits() != 0 {
					t.Errorf("kind %d, room for %d of %d: Len %d, Hits %d", kind, short, made, x.Len(), w.Hits())
				}
			}
			same(t, x, wide)
		}
	}
}

// same says that all that a table has is what another one has by the same numbers.
func same(t *testing.T, x, wide *stripe.Table) {
	t.Helper()
	bits := []int{0, 32, 64, 88, 103}
	for n := range 1 << len(bits) {
		h := api.Header{}
		for k, i := range bits {
			if n>>k&1 == 1 {
				h = orBit(h, i)
			}
		}
		for f := range x.Len() {
			if x.In(f, h) != wide.In(f, h) {
				t.Fatalf("set %d is another one", f)
			}
		}
	}
}

// orBit is a header with one more bit.
func orBit(h api.Header, i int) api.Header {
	b := with(i)
	return api.Header{Dst: h.Dst | b.Dst, Src: h.Src | b.Src, Proto: h.Proto | b.Proto, SPort: h.SPort | b.SPort, DPort: h.DPort | b.DPort}
}

// P9.2: the last node that there is room for, and one more.
func TestVarFull(t *testing.T) {
	x := table(t, 4)
	w := x.Worker(1)
	if f := sure(t)(w.Var(0, true)); f != 2 {
		t.Errorf("Var = %d", f)
	}
	if f := sure(t)(w.Var(103, false)); f != 3 {
		t.Errorf("Var = %d", f)
	}
	no := refused(t, api.ErrFull)
	no(w.Var(0, false))
	no(w.Var(103, true))
	no(w.Var(50, true))
	no(x.Worker(1).Var(50, true))
	if x.Len() != 4 || x.Has(4) || sum(x) != 2 {
		t.Errorf("Len %d, loads %v", x.Len(), loads(x))
	}
	none := table(t, 2)
	no(none.Worker(1).Var(7, true))
	refused(t, api.ErrArg)(none.Worker(1).Var(104, true))
	refused(t, api.ErrArg)(none.Worker(1).Join(4, 0, 1))
}

// P9.2: in a table that is full each call is OK whose nodes are there.
func TestFullButThere(t *testing.T) {
	ok := sure(t)
	x := table(t, 6)
	w := x.Worker(1)
	f, g := ok(w.Var(1, true)), ok(w.Var(2, true))
	both := ok(w.Join(bdd.And, f, g))
	notG := ok(w.Join(bdd.Diff, bdd.True, g))
	for i, p := range [][2]int{
		{ok(w.Var(1, true)), f},
		{ok(w.Var(2, false)), notG},
		{ok(w.Join(bdd.And, g, f)), both},
		{ok(w.Join(bdd.Or, f, both)), f},
		{ok(w.Join(bdd.Diff, both, g)), bdd.False},
		{ok(w.Join(bdd.Xor, g, notG)), bdd.True},
		{ok(w.Join(bdd.Xor, notG, bdd.True)), g},
	} {
		if p[0] != p[1] {
			t.Errorf("call %d: %d, want %d", i, p[0], p[1])
		}
	}
	refused(t, api.ErrFull)(w.Join(bdd.Or, f, g))
	refused(t, api.ErrFull)(w.Join(bdd.Diff, bdd.True, f))
}

// R2: a join that is refused counts no hits and forgets nothing, though pairs come up twice on its way.
func TestRefusedLeavesWorker(t *testing.T) {
	wide := table(t, 1000)
	had := refusing(t, wide)
	for _, most := range []int{1, 2, 100} {
		x := table(t, had+3)
		if refusing(t, x) != had {
			t.Fatal("another number of nodes")
		}
		w := x.Worker(most)
		f, g := odd(t, x.Worker(1000), 3), sure(t)(w.Var(50, true))
		h := sure(t)(w.Var(60, true))
		askAll(t, w, []asked{{bdd.And, g, h, 0}, {bdd.And, g, h, 1}})
		for range 3 {
			refused(t, api.ErrFull)(w.Join(bdd.And, f, g))
			if w.Hits() != 1 || x.Len() != had+3 {
				t.Errorf("most %d: Hits %d, Len %d", most, w.Hits(), x.Len())
			}
		}
		askAll(t, w, []asked{{bdd.And, g, h, 2}})
	}
}

// refusing makes what TestRefusedLeavesWorker asks for ahead of the join that is refused, and says how many nodes there are then.
func refusing(t *testing.T, x *stripe.Table) int {
	w := x.Worker(1000)
	odd(t, w, 3)
	sure(t)(w.Join(bdd.And, sure(t)(w.Var(50, true)), sure(t)(w.Var(60, true))))
	return x.Len()
}

// fill makes sets until there are so many nodes: those of the headers whose last bits are so, one, two, .. of them.
func fill(t *testing.T, nodes func() int, leaf func(int, bool) (int, api.Errno), join func(int, int, int) (int, api.Errno)) {
	t.Helper()
	ahead := []int{bdd.True}
	for bit := api.Vars - 1; ; bit-- {
		ends := []int{sure(t)(leaf(bit, false)), sure(t)(leaf(bit, true))}
		var sets []int
		for _, f := range ahead {
			for _, end := range ends {
				if nodes() == api.MaxNodes {
					return
				}
				sets = append(sets, sure(t)(join(bdd.And, end, f)))
			}
		}
		ahead = sets
	}
}

// P9.1, P9.2: the greatest room, filled up to its last node, as an arena is.
func TestGreatestRoom(t *testing.T) {
	x, a := table(t, api.MaxNodes), arena(t, api.MaxNodes)
	w := x.Worker(1)
	fill(t, x.Len, w.Var, w.Join)
	fill(t, a.Len, func(i int, on bool) (int, api.Errno) { return literal(a, i, on) }, a.Join)
	if x.Len() != 262144 || !x.Has(262143) || x.Has(262144) || sum(x) != 262142 || !sameLoads(x, a) {
		t.Errorf("Len %d, loads %v", x.Len(), loads(x))
	}
	for f := range x.Len() {
		h := api.Header{SPort: uint16(f), DPort: uint16(f * 40503)}
		if x.In(f, h) != a.In(f, h) {
			t.Fatalf("set %d is another one", f)
		}
	}
	refused(t, api.ErrFull)(w.Var(0, true))
	refused(t, api.ErrArg)(w.Join(bdd.And, 0, 262144))
	if r := sure(t)(w.Join(bdd.And, 262143, bdd.True)); r != 262143 {
		t.Errorf("And = %d", r)
	}
}
