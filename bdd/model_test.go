package bdd_test

import (
	"math/rand/v2"
	"testing"

	"crossbuck/api"
	"crossbuck/bdd"
	"crossbuck/hdr"
)

// inputs is how many ways there are to set the five bits of a model.
const inputs = 32

// model reckons with sets as tables of truth over five bits: bit k of one tells of the headers whose bits are k's, the first bit the highest.
type model struct {
	bits  [5]int
	most  int
	nodes []row
	truth []uint32
}

// newModel is one without a node but the two that are always there.
func newModel(bits [5]int, most int) *model {
	return &model{bits: bits, most: most, nodes: []row{{104, 0, 0}, {104, 1, 1}}, truth: []uint32{0, 1<<inputs - 1}}
}

// column is the truth of one of the five bits.
func column(k int) uint32 {
	out := uint32(0)
	for i := range inputs {
		if i>>(4-k)&1 == 1 {
			out |= 1 << i
		}
	}
	return out
}

// under is a set's truth where one of the five bits is so, whatever it is.
func under(truth uint32, k int, on bool) uint32 {
	out := uint32(0)
	for i := range inputs {
		j := i &^ (1 << (4 - k))
		if on {
			j |= 1 << (4 - k)
		}
		if truth>>j&1 == 1 {
			out |= 1 << i
		}
	}
	return out
}

// set is the number of a truth from one of the five bits on; its nodes are made in P6.4's order; false: there is no room.
func (m *model) set(truth uint32, k int) (int, bool) {
	if k == 5 {
		return int(truth & 1), true
	}
	low, ok := m.set(under(truth, k, false), k+1)
	if !ok {
		return 0, false
	}
	high, ok := m.set(under(truth, k, true), k+1)
	if !ok || low == high {
		return low, ok
	}
	want := row{m.bits[k], low, high}
	for f, n := range m.nodes {
		if f > 1 && n == want {
			return f, true
		}
	}
	if len(m.nodes) == m.most {
		return 0, false
	}
	m.nodes = append(m.nodes, want)
	m.truth = append(m.truth, truth)
	return len(m.nodes) - 1, true
}

// answer is what a call must answer that makes these sets, one behind the other, and answers the last one.
func (m *model) answer(truths ...uint32) (int, api.Errno) {
	was, f := len(m.nodes), 0
	for _, truth := range truths {
		var ok bool
		if f, ok = m.set(truth, 0); !ok {
			m.cut(was)
			return 0, api.ErrFull
		}
	}
	return f, api.OK
}

func (m *model) cut(n int) {
	n = min(max(n, 2), len(m.nodes))
	m.nodes, m.truth = m.nodes[:n], m.truth[:n]
}

// joined is the truth of two sets joined.
func joined(kind int, f, g uint32) uint32 {
	return [4]uint32{f & g, f | g, f ^ g, f &^ g}[kind]
}

// round does one call, picked at random, of an arena and of its model, and says what both answer.
func (m *model) round(a *bdd.Arena, r *rand.Rand) (f int, e api.Errno, want int, wantE api.Errno, name string) {
	pick := func() int { return r.IntN(len(m.nodes)) }
	x, y, z, on := pick(), pick(), pick(), r.IntN(2) == 1
	k := r.IntN(5)
	switch r.IntN(12) {
	case 0:
		f, e = a.Var(m.bits[k])
		want, wantE = m.answer(column(k))
		return f, e, want, wantE, "Var"
	case 1:
		l, truths := m.lits(r)
		f, e = a.Cube(l...)
		want, wantE = m.answer(truths)
		return f, e, want, wantE, "Cube"
	case 2:
		f, e = a.Not(x)
		want, wantE = m.answer(^m.truth[x])
		return f, e, want, wantE, "Not"
	case 3, 4:
		both, besides := m.truth[x]&m.truth[y], m.truth[z]&^m.truth[x]
		f, e = a.Ite(x, y, z)
		want, wantE = m.answer(both, besides, both|besides)
		return f, e, want, wantE, "Ite"
	case 5, 6:
		f, e = a.Restrict(x, m.bits[k], on)
		want, wantE = m.answer(under(m.truth[x], k, on))
		return f, e, want, wantE, "Restrict"
	case 7:
		// The bit behind the fourth is none of the five.
		f, e = a.Restrict(x, m.bits[3]+1, on)
		return f, e, x, api.OK, "Restrict of another bit"
	case 8:
		if r.IntN(4) == 0 {
			n := r.IntN(len(m.nodes) + 3)
			a.Cut(n)
			m.cut(n)
		}
		return 0, api.OK, 0, api.OK, "Cut"
	}
	kind := r.IntN(4)
	f, e = a.Join(kind, x, y)
	want, wantE = m.answer(joined(kind, m.truth[x], m.truth[y]))
	return f, e, want, wantE, "Join"
}

// lits are some of the five bits, each of them so or so, and the truth of these.
func (m *model) lits(r *rand.Rand) ([]bdd.Lit, uint32) {
	var l []bdd.Lit
	truth := uint32(1<<inputs - 1)
	for k, bit := range m.bits {
		switch r.IntN(3) {
		case 0:
			l = append(l, bdd.Lit{Var: bit, On: true})
			truth &= column(k)
		case 1:
			l = append(l, bdd.Lit{Var: bit})
			truth &^= column(k)
		}
	}
	return l, truth
}

// header has the five bits as those of a number, and all others at random.
func (m *model) header(i int, r *rand.Rand) api.Header {
	h := api.Header{Dst: r.Uint32(), Src: r.Uint32(), Proto: uint8(r.Uint32()), SPort: uint16(r.Uint32()), DPort: uint16(r.Uint32())}
	for k, bit := range m.bits {
		h = hdr.With(h, bit, i>>(4-k)&1 == 1)
	}
	return h
}

// same says whether an arena has the model's nodes, and each set its headers.
func (m *model) same(t *testing.T, a *bdd.Arena, r *rand.Rand) bool {
	t.Helper()
	got := rows(a)
	if len(got) != len(m.nodes) {
		t.Errorf("%d nodes, want %d", len(got), len(m.nodes))
		return false
	}
	for f, n := range m.nodes {
		if got[f] != n {
			t.Errorf("node %d is %v, want %v", f, got[f], n)
			return false
		}
		i := r.IntN(inputs)
		if h := m.header(i, r); a.In(f, h) != (m.truth[f]>>i&1 == 1) {
			t.Errorf("In(%d, %s) = %v", f, hdr.Print(h), a.In(f, h))
			return false
		}
	}
	return true
}

// P6.1 to P6.4: calls at random, in arenas with much and with little room, against tables of truth.
func TestAgainstModel(t *testing.T) {
	r := rand.New(rand.NewPCG(6, 4))
	for _, bits := range [][5]int{{0, 1, 2, 3, 5}, {0, 31, 32, 63, 103}, {64, 71, 72, 87, 103}, {98, 99, 100, 101, 103}} {
		for _, most := range []int{2, 3, 5, 8, 12, 20, 40, 80, 1000} {
			a, m := arena(t, most), newModel(bits, most)
			for i := range 600 {
				f, e, want, wantE, name := m.round(a, r)
				if f != want || e != wantE {
					t.Fatalf("bits %v, room %d, call %d, %s: %d, %d, want %d, %d", bits, most, i, name, f, e, want, wantE)
				}
				if !m.same(t, a, r) {
					t.Fatalf("bits %v, room %d, behind call %d, %s", bits, most, i, name)
				}
			}
		}
	}
}
