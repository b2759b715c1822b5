package stripe_test

import (
	"math"
	"math/rand/v2"
	"slices"
	"testing"

	"crossbuck/api"
	"crossbuck/bdd"
	"crossbuck/stripe"
)

// literal is a bit that is so, as an arena has it.
func literal(a *bdd.Arena, i int, on bool) (int, api.Errno) { return a.Cube(bdd.Lit{Var: i, On: on}) }

// P9.2: each bit, so and so, by the next number, and by that one again.
func TestVar(t *testing.T) {
	x := table(t, 300)
	v, w := x.Worker(1), x.Worker(1)
	next := 2
	for i := range api.Vars {
		for _, on := range []bool{true, false} {
			if f := sure(t)(v.Var(i, on)); f != next || x.Len() != next+1 {
				t.Errorf("Var(%d, %v) = %d, want %d, Len %d", i, on, f, next, x.Len())
			}
			if f := sure(t)(w.Var(i, on)); f != next || x.Len() != next+1 {
				t.Errorf("another worker's Var(%d, %v) = %d, want %d, Len %d", i, on, f, next, x.Len())
			}
			others := slices.DeleteFunc([]int{0, 1, 31, 32, 63, 64, 71, 72, 87, 88, 103}, func(k int) bool { return k == i })
			if x.In(next, with(i)) != on || x.In(next, with()) == on || x.In(next, with(others...)) == on || x.In(next, with(append(others, i)...)) != on {
				t.Errorf("Var(%d, %v) has other headers", i, on)
			}
			next++
		}
	}
	if v.Hits() != 0 || w.Hits() != 0 {
		t.Errorf("Hits %d, %d", v.Hits(), w.Hits())
	}
}

// P9.2: each join of the sets without a node.
func TestJoinEnds(t *testing.T) {
	x := table(t, 2)
	w := x.Worker(5)
	for kind, want := range [][4]int{{0, 0, 0, 1}, {0, 1, 1, 1}, {0, 1, 1, 0}, {0, 0, 1, 0}} {
		for i, r := range want {
			if got := sure(t)(w.Join(kind, i/2, i%2)); got != r {
				t.Errorf("Join(%d, %d, %d) = %d, want %d", kind, i/2, i%2, got, r)
			}
		}
	}
	if x.Len() != 2 {
		t.Errorf("Len = %d", x.Len())
	}
}

// P9.2: a set with itself, with none and with all.
func TestJoinPlain(t *testing.T) {
	x := table(t, 4)
	w := x.Worker(5)
	f := sure(t)(w.Var(9, true))
	none := sure(t)(w.Var(9, false))
	for _, c := range []struct{ kind, f, g, want int }{
		{bdd.And, f, f, f}, {bdd.And, f, 0, 0}, {bdd.And, 0, f, 0}, {bdd.And, f, 1, f}, {bdd.And, 1, f, f}, {bdd.And, f, none, 0},
		{bdd.Or, f, f, f}, {bdd.Or, f, 0, f}, {bdd.Or, 0, f, f}, {bdd.Or, f, 1, 1}, {bdd.Or, 1, f, 1}, {bdd.Or, f, none, 1},
		{bdd.Xor, f, f, 0}, {bdd.Xor, f, 0, f}, {bdd.Xor, 0, f, f}, {bdd.Xor, f, 1, none}, {bdd.Xor, 1, f, none}, {bdd.Xor, f, none, 1},
		{bdd.Diff, f, f, 0}, {bdd.Diff, f, 0, f}, {bdd.Diff, 0, f, 0}, {bdd.Diff, f, 1, 0}, {bdd.Diff, 1, f, none}, {bdd.Diff, f, none, f},
	} {
		if got := sure(t)(w.Join(c.kind, c.f, c.g)); got != c.want {
			t.Errorf("Join(%d, %d, %d) = %d, want %d", c.kind, c.f, c.g, got, c.want)
		}
	}
	if x.Len() != 4 {
		t.Errorf("Len = %d", x.Len())
	}
}

// P9.2: numbers that are no set's, kinds and bits that are none; ahead of ErrFull, too, and nothing is changed.
func TestWrong(t *testing.T) {
	x := table(t, 5)
	w := x.Worker(2)
	sure(t)(w.Var(1, true))
	sure(t)(w.Var(2, true))
	both := sure(t)(w.Join(bdd.And, 2, 3))
	no := refused(t, api.ErrArg)
	for _, f := range append([]int{5, 6}, far...) {
		for kind := range 4 {
			no(w.Join(kind, f, 2))
			no(w.Join(kind, 2, f))
			no(w.Join(kind, f, f))
			no(w.Join(kind, bdd.False, f))
			no(w.Join(kind, f, bdd.True))
		}
	}
	for _, kind := range append([]int{4, 5}, far...) {
		no(w.Join(kind, 2, 3))
		no(w.Join(kind, 0, 0))
		no(w.Join(kind, 2, 100))
	}
	for _, i := range append([]int{104, 105}, far...) {
		no(w.Var(i, true))
		no(w.Var(i, false))
	}
	if x.Len() != 5 || w.Hits() != 0 {
		t.Errorf("Len %d, Hits %d", x.Len(), w.Hits())
	}
	if f := sure(t)(w.Join(bdd.And, 2, 3)); f != both || w.Hits() != 1 {
		t.Errorf("And = %d, want %d, Hits %d", f, both, w.Hits())
	}
}

// sameLoads says whether each lock has as many nodes as an arena has of it.
func sameLoads(x *stripe.Table, a *bdd.Arena) bool {
	want := make([]int, stripe.Stripes)
	for f := 2; f < a.Len(); f++ {
		want[stripe.Stripe(a.Node(f))]++
	}
	return slices.Equal(loads(x), want)
}

// anyHeader has just some of these bits.
func anyHeader(r *rand.Rand, bits []int) api.Header {
	var some []int
	for _, i := range bits {
		if r.IntN(2) == 1 {
			some = append(some, i)
		}
	}
	return with(some...)
}

// memory is what a worker remembers, pair by pair, and its hits.
type memory struct {
	a      *bdd.Arena
	most   int
	hits   int
	joined map[[3]int]int
}

// isPlain says whether a join needs no bit to be looked at: its answer is False, True, or one of both sets.
func isPlain(kind, f, g int) bool {
	switch {
	case f == g || f <= bdd.True && g <= bdd.True:
		return true
	case f > bdd.True && g > bdd.True:
		return false
	case kind == bdd.Xor:
		return f != bdd.True && g != bdd.True
	}
	return kind != bdd.Diff || f != bdd.True
}

// join goes through a pair's parts as they stand in an arena, and remembers it behind them.
func (m *memory) join(kind, f, g int) {
	if isPlain(kind, f, g) {
		return
	}
	if _, there := m.joined[[3]int{kind, f, g}]; there {
		m.hits++
		return
	}
	fLevel, fLow, fHigh := m.a.Node(f)
	gLevel, gLow, gHigh := m.a.Node(g)
	if fLevel > gLevel {
		fLow, fHigh = f, f
	}
	if gLevel > fLevel {
		gLow, gHigh = g, g
	}
	m.join(kind, fLow, gLow)
	m.join(kind, fHigh, gHigh)
	if len(m.joined) >= max(m.most, 1) {
		clear(m.joined)
	}
	m.joined[[3]int{kind, f, g}] = 1
}

// lockstep does calls at random of workers of one table, and of an arena, up to the first one for which there is no room.
func lockstep(t *testing.T, r *rand.Rand, bits []int, room, most int) {
	t.Helper()
	x, a := table(t, room), arena(t, room)
	var w []*stripe.Worker
	var m []*memory
	for _, most := range []int{most, most + 1, 1000} {
		w = append(w, x.Worker(most))
		m = append(m, &memory{a: a, most: most, joined: map[[3]int]int{}})
	}
	for i := range 300 {
		w, m := w[i%3], m[i%3]
		kind, f, g := r.IntN(4), r.IntN(a.Len()), r.IntN(a.Len())
		call, same := w.Join, a.Join
		if bit, on := bits[r.IntN(len(bits))], r.IntN(2) == 1; r.IntN(5) == 0 {
			call = func(int, int, int) (int, api.Errno) { return w.Var(bit, on) }
			same = func(int, int, int) (int, api.Errno) { return literal(a, bit, on) }
		} else {
			m.join(kind, f, g)
		}
		got, e := call(kind, f, g)
		want, wantE := same(kind, f, g)
		if got != want || e != wantE {
			t.Fatalf("room %d, most %d, call %d: %d, %d, want %d, %d", room, most, i, got, e, want, wantE)
		}
		if e != api.OK {
			if e != api.ErrFull || x.Len() != room {
				t.Fatalf("error %d with %d of %d nodes", e, x.Len(), room)
			}
			return
		}
		h := anyHeader(r, bits)
		if x.Len() != a.Len() || !sameLoads(x, a) || x.In(got, h) != a.In(got, h) || w.Hits() != m.hits {
			t.Fatalf("room %d, most %d, behind call %d: %d nodes, want %d, Hits %d, want %d", room, most, i, x.Len(), a.Len(), w.Hits(), m.hits)
		}
	}
}

// P9.1, P9.2: in an arena that is asked the same each set has the same number and the same headers, however much workers remember; and they have remembered as often as they must.
func TestAgainstArena(t *testing.T) {
	r := rand.New(rand.NewPCG(9, 2))
	for _, bits := range [][]int{{0, 1, 2, 3, 5, 6, 7}, {0, 31, 32, 63, 64, 71, 72, 87, 88, 103}, {97, 98, 99, 100, 101, 102, 103}} {
		for _, room := range []int{2, 3, 5, 8, 20, 80, 1000, 20000} {
			for _, most := range []int{-1, 0, 1, 2, 3, 10, 100, math.MaxInt - 1} {
				lockstep(t, r, bits, room, most)
			}
		}
	}
}

// vars are the sets of the bits 0, 1, .. that are set.
func vars(t *testing.T, w *stripe.Worker, n int) []int {
	t.Helper()
	var out []int
	for i := range n {
		out = append(out, sure(t)(w.Var(i, true)))
	}
	return out
}

// asked is a join, and how many hits there must be behind it.
type asked struct{ kind, f, g, hits int }

// askAll does joins one behind the other.
func askAll(t *testing.T, w *stripe.Worker, all []asked) {
	t.Helper()
	for i, c := range all {
		sure(t)(w.Join(c.kind, c.f, c.g))
		if w.Hits() != c.hits {
			t.Errorf("behind join %d: Hits %d, want %d", i, w.Hits(), c.hits)
		}
	}
}

// P9.2: what is remembered is a pair as it was handed, with its kind; and nobody has another one's.
func TestHits(t *testing.T) {
	x := table(t, 1000)
	w, other := x.Worker(100), x.Worker(100)
	v := vars(t, w, 3)
	if w.Hits() != 0 {
		t.Errorf("Hits %d at first", w.Hits())
	}
	askAll(t, w, []asked{
		{bdd.And, v[0], v[1], 0}, {bdd.And, v[0], v[1], 1}, {bdd.And, v[0], v[1], 2},
		{bdd.Or, v[0], v[1], 2}, {bdd.Or, v[0], v[1], 3}, {bdd.And, v[0], v[1], 4},
		{bdd.And, v[0], v[2], 4}, {bdd.And, v[1], v[2], 4}, {bdd.And, v[0], v[2], 5},
		{bdd.Diff, v[0], v[1], 5}, {bdd.Diff, v[0], v[1], 6}, {bdd.Diff, v[1], v[0], 6},
	})
	askAll(t, other, []asked{{bdd.And, v[0], v[1], 0}, {bdd.And, v[0], v[1], 1}})
	if w.Hits() != 6 {
		t.Errorf("Hits %d behind another one's", w.Hits())
	}
}

// P9.2: where no bit has to be looked at there is nothing to be remembered.
func TestNoHitsOfPlain(t *testing.T) {
	x := table(t, 1000)
	w := x.Worker(1)
	v := vars(t, w, 2)
	sure(t)(w.Join(bdd.And, v[0], v[1]))
	for range 3 {
		sure(t)(w.Join(bdd.And, v[0], v[0]))
		sure(t)(w.Join(bdd.Or, v[0], bdd.False))
		sure(t)(w.Join(bdd.Diff, bdd.False, v[1]))
		sure(t)(w.Join(bdd.Xor, bdd.True, bdd.True))
	}
	askAll(t, w, []asked{{bdd.And, v[0], v[1], 1}})
}

// P9.2: as many as may be are remembered; the next one is alone. One that is remembered is no next one.
func TestForgets(t *testing.T) {
	x := table(t, 1000)
	for _, most := range []int{1, 0, -1, -100, math.MinInt} {
		w := x.Worker(most)
		v := vars(t, w, 3)
		askAll(t, w, []asked{
			{bdd.And, v[0], v[1], 0}, {bdd.And, v[0], v[1], 1}, {bdd.And, v[0], v[1], 2},
			{bdd.And, v[0], v[2], 2}, {bdd.And, v[0], v[2], 3}, {bdd.And, v[0], v[1], 3}, {bdd.And, v[0], v[2], 3},
		})
	}
	w := x.Worker(3)
	v := vars(t, w, 4)
	askAll(t, w, []asked{
		{bdd.And, v[0], v[1], 0}, {bdd.Or, v[0], v[1], 0}, {bdd.And, v[0], v[2], 0},
		{bdd.And, v[0], v[1], 1}, {bdd.Or, v[0], v[1], 2}, {bdd.And, v[0], v[2], 3},
		{bdd.And, v[1], v[2], 3}, {bdd.And, v[1], v[2], 4}, {bdd.Or, v[0], v[1], 4}, {bdd.And, v[0], v[1], 4},
		{bdd.And, v[1], v[2], 5}, {bdd.Or, v[0], v[1], 6}, {bdd.And, v[0], v[1], 7},
		{bdd.And, v[0], v[2], 7}, {bdd.And, v[1], v[2], 7}, {bdd.And, v[0], v[2], 8},
	})
}

// odd is the set of the headers that have an odd number of the first so many bits set.
func odd(t *testing.T, w *stripe.Worker, n int) int {
	t.Helper()
	f := bdd.False
	for i := range n {
		f = sure(t)(w.Join(bdd.Xor, sure(t)(w.Var(n-1-i, true)), f))
	}
	return f
}

// P9.2: pairs of parts are remembered, too: both that are met twice on the way.
func TestHitsOnTheWay(t *testing.T) {
	x := table(t, 1000)
	f, g := odd(t, x.Worker(1000), 3), sure(t)(x.Worker(1).Var(50, true))
	w := x.Worker(100)
	askAll(t, w, []asked{{bdd.And, f, g, 2}, {bdd.And, f, g, 3}})
	// Six pairs are joined, the last one of which is the one that was asked for.
	tight := x.Worker(6)
	askAll(t, tight, []asked{{bdd.And, f, g, 2}, {bdd.And, f, g, 3}})
	short := x.Worker(1)
	askAll(t, short, []asked{{bdd.And, f, g, 0}, {bdd.And, f, g, 1}})
}

// R1: with little remembered the time doesn't double with each bit: then this would hardly end.
func TestLittleRemembered(t *testing.T) {
	for _, most := range []int{1, 2, 3, 50, 1000} {
		x := table(t, 10000)
		w := x.Worker(most)
		f := odd(t, w, 104)
		g := sure(t)(w.Join(bdd.Xor, f, bdd.True))
		if r := sure(t)(w.Join(bdd.Xor, f, g)); r != bdd.True {
			t.Errorf("Xor = %d", r)
		}
		if r := sure(t)(w.Join(bdd.And, g, f)); r != bdd.False {
			t.Errorf("And = %d", r)
		}
		if !x.In(f, with(0, 50, 103)) || x.In(f, with(0, 103)) || x.In(g, with(7)) {
			t.Error("the sets have other headers")
		}
	}
}
