package table_test

import (
	"math/rand/v2"
	"slices"
	"testing"

	"crossbuck/api"
	"crossbuck/table"
)

// model is a table as the chapter says it: a list of rules, of which each is asked.
type model []api.Rule

// has says whether a prefix has an address.
func has(p api.Prefix, a uint32) bool { return uint64(p.Addr)>>(32-p.Bits) == uint64(a)>>(32-p.Bits) }

// ahead says whether a rule is asked ahead of another one.
func ahead(a, b api.Rule) bool {
	if a.Prio != b.Prio {
		return a.Prio > b.Prio
	}
	if a.Dst.Bits != b.Dst.Bits {
		return a.Dst.Bits > b.Dst.Bits
	}
	return a.ID < b.ID
}

// asked are the rules that are wanted, as they are asked.
func (m model) asked(want func(r api.Rule) bool) []api.Rule {
	var out []api.Rule
	for _, r := range m {
		if !want(r) {
			continue
		}
		at := 0
		for at < len(out) && ahead(out[at], r) {
			at++
		}
		out = slices.Insert(out, at, r)
	}
	return out
}

// place is where the rule of an ID is; -1: nowhere.
func (m model) place(id int) int {
	return slices.IndexFunc(m, func(r api.Rule) bool { return r.ID == id })
}

// space are addresses such that prefixes made by prefix have all of them that they have by whole ones: the first bits, or the last ones, of an end or of 10/8.
type space struct {
	base  uint32
	shift int
}

// spaceBits is how many bits the addresses of a space differ in.
const spaceBits = 6

// addr is one of a space's addresses.
func (s space) addr(i int) uint32 { return s.base | uint32(i)<<s.shift }

// prefix is one that has some of a space's addresses.
func (s space) prefix(r *rand.Rand) api.Prefix {
	n := 32 - s.shift - r.IntN(spaceBits+1)
	if s.shift == 0 && r.IntN(20) == 0 {
		n = r.IntN(27)
	}
	return api.Prefix{Addr: uint32(uint64(s.addr(r.IntN(1<<spaceBits))) >> (32 - n) << (32 - n)), Bits: n}
}

// check holds all answers of a table against the model's.
func (s space) check(t *testing.T, x *table.Table, m model, p api.Prefix) {
	t.Helper()
	same(t, "Rules", x.Rules(), m.asked(func(api.Rule) bool { return true }))
	same(t, "Meeting", x.Meeting(p), m.asked(func(r api.Rule) bool { return has(p, r.Dst.Addr) || has(r.Dst, p.Addr) }))
	open := map[int]int{}
	for i := range 1 << spaceBits {
		l := m.asked(func(r api.Rule) bool { return has(r.Dst, s.addr(i)) })
		want := api.Rule{}
		if len(l) > 0 {
			want = l[0]
			open[want.ID]++
		}
		if got, ok := x.Best(s.addr(i)); got != want || ok != (len(l) > 0) {
			t.Errorf("Best(%d) = %v, %v, want %v", s.addr(i), got, ok, want)
		}
	}
	for _, r := range m {
		// One that is wider than the space has addresses beside it, which weren't asked for.
		if r.Dst.Bits >= 32-s.shift-spaceBits && x.Hidden(r.ID) != (open[r.ID] == 0) {
			t.Errorf("Hidden(%d) = %v, best of %d", r.ID, x.Hidden(r.ID), open[r.ID])
		}
	}
	if x.Len() != len(m) {
		t.Errorf("Len %d, want %d", x.Len(), len(m))
	}
}

// P11.1 to P11.3: whatever comes and goes, at each step all answers are the model's; hidden is just what is the best one of no address.
func TestModel(t *testing.T) {
	spaces := []space{{0, 26}, {0, 0}, {0xffffffc0, 0}, {0x0a000000, 0}, {0x0a000000, 18}, {0xff000000, 18}}
	for seed := range uint64(36) {
		r := rand.New(rand.NewPCG(11, seed))
		s, x, m := spaces[seed%6], table.New(), model(nil)
		for step := range 120 {
			y := api.Rule{ID: r.IntN(40), Dev: r.IntN(9), Dst: s.prefix(r), Prio: r.IntN(3), Out: r.IntN(9)}
			at := m.place(y.ID)
			if r.IntN(10) < 7 {
				want := api.ErrThere
				if at < 0 {
					m, want = append(m, y), api.OK
				}
				if e := x.Add(y); e != want {
					t.Fatalf("Add(%v) = %d, want %d", y, e, want)
				}
			} else {
				want := api.ErrNone
				if at >= 0 {
					m, want = slices.Delete(m, at, at+1), api.OK
				}
				if e := x.Drop(y.ID); e != want {
					t.Fatalf("Drop(%d) = %d, want %d", y.ID, e, want)
				}
			}
			if step%5 == 0 {
				s.check(t, x, m, s.prefix(r))
				s.check(t, x.Clone(), m, s.prefix(r))
			}
			if t.Failed() {
				t.Fatalf("seed %d, step %d", seed, step)
			}
		}
	}
}
