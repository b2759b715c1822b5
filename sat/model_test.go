package sat_test

import (
	"math/bits"
	"math/rand/v2"
	"testing"

	"crossbuck/api"
	"crossbuck/bdd"
	"crossbuck/hdr"
	"crossbuck/sat"
	"crossbuck/wide"
)

// inputs is how many ways there are to set five bits.
const inputs = 32

// model knows of sets over five bits a table of truth: bit k tells of the headers whose bits are k's, the first bit the highest.
type model struct {
	arena *bdd.Arena
	bits  [5]int
	truth map[int]uint32
}

// newModel joins sets of five bits at random, and reckons with their truths beside.
func newModel(t *testing.T, five [5]int, r *rand.Rand) model {
	t.Helper()
	m := model{arena(t, api.MaxNodes), five, map[int]uint32{bdd.False: 0, bdd.True: 1<<inputs - 1}}
	sets, ok := []int{bdd.False, bdd.True}, sure(t)
	for k, bit := range five {
		f, column := ok(m.arena.Var(bit)), uint32(0)
		for i := range inputs {
			column |= uint32(i>>(4-k)&1) << i
		}
		m.truth[f] = column
		sets = append(sets, f)
	}
	for range 60 {
		x, y, kind := sets[r.IntN(len(sets))], sets[r.IntN(len(sets))], r.IntN(4)
		f, g := m.truth[x], m.truth[y]
		set := ok(m.arena.Join(kind, x, y))
		m.truth[set] = [4]uint32{f & g, f | g, f ^ g, f &^ g}[kind]
		sets = append(sets, set)
	}
	return m
}

// header has the five bits as those of a number, and all others so.
func (m model) header(i int, so bool) api.Header {
	h := api.Header{}
	if so {
		h = allSet
	}
	for k, bit := range m.bits {
		h = hdr.With(h, bit, i>>(4-k)&1 == 1)
	}
	return h
}

// reached is how many nodes sets have; a node's parts have less numbers, so one way down is enough.
func (m model) reached(sets ...int) int {
	mine := make([]bool, m.arena.Len())
	for _, f := range sets {
		mine[f] = true
	}
	n := 0
	for i := len(mine) - 1; i > bdd.True; i-- {
		if mine[i] {
			n++
			_, low, high := m.arena.Node(i)
			mine[low], mine[high] = true, true
		}
	}
	return n
}

// one says what must be told of a set by itself.
func (m model) one(t *testing.T, f int, truth uint32) {
	t.Helper()
	wantNodes(t, m.arena, m.reached(f), f)
	if truth == 0 {
		wantNone(t, m.arena, f)
		return
	}
	want := wide.Count{}
	for range bits.OnesCount32(truth) {
		want = want.Add(wide.Pow(99))
	}
	wantCount(t, m.arena, f, want)
	wantEnds(t, m.arena, f, m.header(bits.TrailingZeros32(truth), false), m.header(31-bits.LeadingZeros32(truth), true))
}

// two says what must be told of two sets together (P8.3 among it).
func (m model) two(t *testing.T, f, g int) {
	t.Helper()
	a := m.arena
	wantWithin(t, a, f, g, m.truth[f]&^m.truth[g] == 0)
	wantNodes(t, a, m.reached(f, g), f, g)
	ok := sure(t)
	together, besides := ok(a.Join(bdd.Or, f, g)), ok(a.Join(bdd.Diff, g, f))
	wantCount(t, a, together, sat.Count(a, f).Add(sat.Count(a, besides)))
	shared := ok(a.Join(bdd.And, f, g))
	wantCount(t, a, shared, sat.Count(a, g).Sub(sat.Count(a, besides)))
}

// P8.1 to P8.3: sets at random, over bits with and without gaps, against tables of truth.
func TestAgainstModel(t *testing.T) {
	r := rand.New(rand.NewPCG(8, 3))
	for _, five := range [][5]int{{0, 1, 2, 3, 4}, {99, 100, 101, 102, 103}, {0, 31, 32, 63, 103}, {1, 64, 71, 72, 87}, {20, 40, 60, 80, 100}} {
		for range 4 {
			m := newModel(t, five, r)
			for f, truth := range m.truth {
				m.one(t, f, truth)
				for g := range m.truth {
					m.two(t, f, g)
				}
			}
		}
	}
}

// rows are all nodes of an arena, by their numbers.
func rows(a *bdd.Arena) [][3]int {
	var out [][3]int
	for f := range a.Len() {
		level, low, high := a.Node(f)
		out = append(out, [3]int{level, low, high})
	}
	return out
}

// R2, R8: in an arena that is full all is told as well, and nothing of it changes.
func TestFullArena(t *testing.T) {
	ok := sure(t)
	a := arena(t, 7)
	x, y := ok(a.Var(10)), ok(a.Var(90))
	one := ok(a.Join(bdd.Or, x, y))
	notY := ok(a.Not(y))
	xor := ok(a.Join(bdd.Xor, x, y))
	ahead := rows(a)
	if a.Len() != 7 {
		t.Fatalf("Len = %d", a.Len())
	}
	wantWithin(t, a, xor, one, true)
	wantWithin(t, a, one, xor, false)
	wantWithin(t, a, x, notY, false)
	wantCount(t, a, one, wide.Pow(103).Add(wide.Pow(102)))
	wantEnds(t, a, xor, with(api.Header{}, true, 90), with(allSet, false, 90))
	wantNodes(t, a, 5, one, xor, x)
	for i, row := range rows(a) {
		if row != ahead[i] {
			t.Errorf("node %d is %v, was %v", i, row, ahead[i])
		}
	}
	if a.Len() != 7 {
		t.Errorf("Len = %d, was 7", a.Len())
	}
}

// P8.1, P8.2: sets that have very many ways through few nodes: each is gone through once.
func TestManyWays(t *testing.T) {
	ok := sure(t)
	a := arena(t, 10000)
	odd, even := bdd.False, bdd.True
	for i := api.Vars - 1; i >= 0; i-- {
		x := ok(a.Var(i))
		odd, even = ok(a.Ite(x, even, odd)), ok(a.Ite(x, odd, even))
	}
	for _, f := range []int{odd, even} {
		wantCount(t, a, f, wide.Pow(103))
		wantNodes(t, a, 207, f)
		wantWithin(t, a, f, f, true)
	}
	wantNodes(t, a, 208, odd, even)
	wantWithin(t, a, odd, even, false)
	wantEnds(t, a, odd, api.Header{DPort: 1}, with(allSet, false, 103))
	wantEnds(t, a, even, api.Header{}, allSet)
	half := ok(a.Join(bdd.And, odd, ok(a.Var(103))))
	wantCount(t, a, half, wide.Pow(102))
	wantWithin(t, a, half, odd, true)
	wantWithin(t, a, odd, half, false)
	wantWithin(t, a, half, even, false)
}

// P8.1: an arena with as many nodes as there may be.
func TestGreatestRoom(t *testing.T) {
	a := arena(t, api.MaxNodes)
	var sets []int
	for n := range 1 << 17 {
		var l []bdd.Lit
		for i := range 17 {
			l = append(l, bdd.Lit{Var: api.Vars - 17 + i, On: n>>i&1 == 1})
		}
		sets = append(sets, sure(t)(a.Cube(l...)))
	}
	if a.Len() != api.MaxNodes {
		t.Fatalf("Len = %d", a.Len())
	}
	wantNodes(t, a, api.MaxNodes-2, sets...)
	wantCount(t, a, api.MaxNodes-1, wide.Pow(87))
	wantWithin(t, a, sets[0], sets[1], false)
	wantNone(t, a, api.MaxNodes)
}
