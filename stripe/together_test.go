package stripe_test

import (
	"math/rand/v2"
	"slices"
	"sync"
	"testing"

	"crossbuck/api"
	"crossbuck/bdd"
	"crossbuck/stripe"
)

// workers is how many work at once in these tests.
const workers = 8

// recipe is how a set is made: a bit that is so, or two sets ahead of it that are joined.
type recipe struct {
	bit     int
	on      bool
	kind    int
	f, g    int
	isJoint bool
}

// recipes are bits, so and so, and joins at random of what is ahead.
func recipes(r *rand.Rand, bits []int, n int) []recipe {
	var out []recipe
	for _, i := range bits {
		out = append(out, recipe{bit: i, on: true}, recipe{bit: i})
	}
	for len(out) < n {
		out = append(out, recipe{kind: r.IntN(4), f: r.IntN(len(out)), g: r.IntN(len(out)), isJoint: true})
	}
	return out
}

// maker makes sets, each with those that it needs ahead of it.
type maker struct {
	all   []recipe
	made  []int
	errs  []api.Errno
	known []bool
	leaf  func(i int, on bool) (int, api.Errno)
	join  func(kind, f, g int) (int, api.Errno)
}

// newMaker is one that has made nothing yet.
func newMaker(all []recipe, leaf func(int, bool) (int, api.Errno), join func(int, int, int) (int, api.Errno)) *maker {
	n := len(all)
	return &maker{all, make([]int, n), make([]api.Errno, n), make([]bool, n), leaf, join}
}

// make is the set of a recipe; one that needs a set that was refused is refused.
func (m *maker) make(i int) (int, api.Errno) {
	if m.known[i] {
		return m.made[i], m.errs[i]
	}
	c := m.all[i]
	if !c.isJoint {
		m.made[i], m.errs[i] = m.leaf(c.bit, c.on)
	} else {
		f, e := m.make(c.f)
		g, e2 := m.make(c.g)
		m.errs[i] = max(e, e2)
		if m.errs[i] == api.OK {
			m.made[i], m.errs[i] = m.join(c.kind, f, g)
		}
	}
	m.known[i] = true
	return m.made[i], m.errs[i]
}

// atOnce has workers of one table make all sets, each in an order of its own.
func atOnce(x *stripe.Table, all []recipe, most int) []*maker {
	var out []*maker
	var group sync.WaitGroup
	for k := range workers {
		w := x.Worker(most + k)
		m := newMaker(all, w.Var, w.Join)
		out = append(out, m)
		order := rand.New(rand.NewPCG(9, uint64(k))).Perm(len(all))
		group.Go(func() {
			for _, i := range order {
				m.make(i)
			}
		})
	}
	group.Wait()
	return out
}

// P9.3: all workers have one number for each set, there are just the nodes that one alone would make, and two sets have two numbers.
func TestTogether(t *testing.T) {
	bits := []int{0, 1, 31, 32, 63, 64, 72, 88, 102, 103}
	for round := range 12 {
		r := rand.New(rand.NewPCG(3, uint64(round)))
		all := recipes(r, bits, 120)
		a := arena(t, api.MaxNodes)
		alone := newMaker(all, func(i int, on bool) (int, api.Errno) { return literal(a, i, on) }, a.Join)
		for i := range all {
			sure(t)(alone.make(i))
		}
		x := table(t, a.Len())
		makers := atOnce(x, all, []int{1, 5, 1000}[round%3])
		if x.Len() != a.Len() || sum(x) != a.Len()-2 {
			t.Fatalf("round %d: %d nodes, %d at locks, want %d", round, x.Len(), sum(x), a.Len())
		}
		byAlone, byTogether := map[int]int{}, map[int]int{}
		for i := range all {
			f := sure(t)(makers[0].make(i))
			for k, m := range makers {
				if g := sure(t)(m.make(i)); g != f {
					t.Fatalf("round %d: set %d is %d, and %d of worker %d", round, i, f, g, k)
				}
			}
			byAlone[alone.made[i]], byTogether[f] = i, i
			if h := anyHeader(r, bits); x.In(f, h) != a.In(alone.made[i], h) {
				t.Fatalf("round %d: set %d has other headers", round, i)
			}
		}
		if len(byAlone) != len(byTogether) {
			t.Errorf("round %d: %d sets, want %d", round, len(byTogether), len(byAlone))
		}
	}
}

// P9.3: all have room together: of bits at once just so many are made as there is room for, and who asks for one that is there has it.
func TestRoomTogether(t *testing.T) {
	for round, room := range []int{2, 3, 10, 50, 102, 150, 209, 210, 211} {
		var all []recipe
		for i := range api.Vars {
			all = append(all, recipe{bit: i, on: true}, recipe{bit: i})
		}
		x := table(t, room)
		makers := atOnce(x, all, round)
		var numbers []int
		for i := range all {
			f, e := makers[0].make(i)
			for k, m := range makers {
				if g, e2 := m.make(i); g != f || e2 != e {
					t.Fatalf("room %d: set %d is %d, %d, and %d, %d of worker %d", room, i, f, e, g, e2, k)
				}
			}
			if e == api.OK {
				numbers = append(numbers, f)
			} else if e != api.ErrFull || f != 0 {
				t.Fatalf("room %d: set %d is %d, %d", room, i, f, e)
			}
		}
		want := min(room, 210)
		slices.Sort(numbers)
		if len(slices.Compact(numbers)) != want-2 || x.Len() != want || sum(x) != want-2 {
			t.Errorf("room %d: %d sets, Len %d, loads %v", room, len(numbers), x.Len(), loads(x))
		}
	}
}

// P9.3: joins at once in a table that is too small: what is answered is right, and none is refused while there is room.
func TestJoinsInLittleRoom(t *testing.T) {
	bits := []int{0, 1, 40, 64, 80, 103}
	for round := range 12 {
		r := rand.New(rand.NewPCG(5, uint64(round)))
		all := recipes(r, bits, 100)
		a := arena(t, api.MaxNodes)
		alone := newMaker(all, func(i int, on bool) (int, api.Errno) { return literal(a, i, on) }, a.Join)
		for i := range all {
			sure(t)(alone.make(i))
		}
		room := 2 + r.IntN(a.Len()-2)
		x := table(t, room)
		bySet := map[int]int{}
		for _, m := range atOnce(x, all, 3) {
			for i := range all {
				f, e := m.make(i)
				if e != api.OK {
					if e != api.ErrFull || f != 0 || x.Len() != room {
						t.Fatalf("round %d: set %d is %d, %d, with %d of %d nodes", round, i, f, e, x.Len(), room)
					}
					continue
				}
				if g, there := bySet[alone.made[i]]; there && g != f {
					t.Fatalf("round %d: set %d is %d and %d", round, i, f, g)
				}
				bySet[alone.made[i]] = f
				if h := anyHeader(r, bits); x.In(f, h) != a.In(alone.made[i], h) {
					t.Fatalf("round %d: set %d has other headers", round, i)
				}
			}
		}
	}
}

// watch asks a table until a channel is closed: each number below Len is a set's, and nothing grows less.
func watch(t *testing.T, x *stripe.Table, over <-chan struct{}) {
	last := 0
	for {
		n := x.Len()
		if n < last || !x.Has(n-1) || !x.Has(n/2) || sum(x) < n-2 || x.Len() < n {
			t.Errorf("Len %d behind %d, Has %v %v", n, last, x.Has(n-1), x.Has(n/2))
		}
		// Each set that is made there has either the header without bits or the one with all.
		if f := n - 1; f > 1 && x.In(f, api.Header{}) == x.In(f, with(everyBit()...)) {
			t.Errorf("set %d isn't one that is made", f)
		}
		last = n
		select {
		case <-over:
			return
		default:
		}
	}
}

// everyBit are all bits.
func everyBit() []int {
	var out []int
	for i := range api.Vars {
		out = append(out, i)
	}
	return out
}

// R5, P9.3: a table may be asked while others work on it.
func TestWatched(t *testing.T) {
	x := table(t, 100000)
	over := make(chan struct{})
	var watchers, makers sync.WaitGroup
	for range 2 {
		watchers.Go(func() { watch(t, x, over) })
	}
	for k := range workers {
		makers.Go(func() {
			w := x.Worker(10)
			r := rand.New(rand.NewPCG(7, uint64(k)))
			for range 2000 {
				// What all of some bits have set: no header without bits, and the one with all.
				f := bdd.True
				for i := api.Vars - 1; i >= 0; i -= 1 + r.IntN(60) {
					v, e := w.Var(i, true)
					g, e2 := w.Join(bdd.And, v, f)
					if e != api.OK || e2 != api.OK {
						t.Errorf("errors %d, %d", e, e2)
						return
					}
					f = g
				}
			}
		})
	}
	makers.Wait()
	close(over)
	watchers.Wait()
}

// Example 1, by goroutines that begin at once.
func TestVarOfTwo(t *testing.T) {
	for range 200 {
		x := table(t, 3)
		var got [2]int
		var group sync.WaitGroup
		for i := range got {
			w := x.Worker(1)
			group.Go(func() { got[i], _ = w.Var(0, true) })
		}
		group.Wait()
		if got != [2]int{2, 2} || x.Len() != 3 {
			t.Fatalf("Var(0, true) = %v, Len %d", got, x.Len())
		}
	}
}
