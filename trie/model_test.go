package trie_test

import (
	"cmp"
	"math/rand/v2"
	"slices"
	"testing"

	"crossbuck/api"
	"crossbuck/trie"
)

// model is a tree as the chapter says it: a list of entries, of which each is asked.
type model []trie.Entry

// shares says whether the first so many bits of two addresses are the same.
func shares(a, b uint32, n int) bool { return uint64(a)>>(32-n) == uint64(b)>>(32-n) }

// sorted are the entries that are wanted, by rising addresses, then bits, then values.
func (m model) sorted(want func(p api.Prefix) bool) []trie.Entry {
	var out []trie.Entry
	for _, x := range m {
		if want(x.P) {
			out = append(out, x)
		}
	}
	slices.SortFunc(out, func(x, y trie.Entry) int {
		return cmp.Or(cmp.Compare(x.P.Addr, y.P.Addr), cmp.Compare(x.P.Bits, y.P.Bits), cmp.Compare(x.V, y.V))
	})
	return out
}

// of is Of: the widest first, then by values.
func (m model) of(a uint32) []trie.Entry {
	out := m.sorted(func(p api.Prefix) bool { return shares(p.Addr, a, p.Bits) })
	slices.SortStableFunc(out, func(x, y trie.Entry) int { return cmp.Compare(x.P.Bits, y.P.Bits) })
	return out
}

// meeting is Meeting.
func (m model) meeting(q api.Prefix) []trie.Entry {
	return m.sorted(func(p api.Prefix) bool { return shares(p.Addr, q.Addr, min(p.Bits, q.Bits)) })
}

// size is how many prefixes there are on all ways, each once.
func (m model) size() int {
	on := map[api.Prefix]int{{}: 1}
	for _, x := range m {
		for n := range x.P.Bits + 1 {
			on[api.Prefix{Addr: uint32(uint64(x.P.Addr) >> (32 - n) << (32 - n)), Bits: n}]++
		}
	}
	return len(on)
}

// anyPrefix is one of few that often meet: of an end of all addresses, or of 10/8, and of any number of bits.
func anyPrefix(r *rand.Rand) api.Prefix {
	base := []uint32{0, 0xffffffff, 0x0a000000, 0x0a010000, 0x80000000}[r.IntN(5)] ^ 1<<r.IntN(32)
	n := r.IntN(33)
	return api.Prefix{Addr: uint32(uint64(base) >> (32 - n) << (32 - n)), Bits: n}
}

// P10.1 to P10.3: whatever comes and goes, at each step all answers are the model's.
func TestModel(t *testing.T) {
	for seed := range uint64(30) {
		r := rand.New(rand.NewPCG(10, seed))
		x, m := &trie.Tree{}, model(nil)
		for step := range 300 {
			y := trie.Entry{P: anyPrefix(r), V: r.IntN(7) - 3}
			if len(m) > 0 && r.IntN(3) == 0 {
				y = m[r.IntN(len(m))]
			}
			at := slices.Index(m, y)
			// First more come than go, then more go.
			if r.IntN(10) < 7 == (step < 150) {
				want := api.ErrThere
				if at < 0 {
					m, want = append(m, y), api.OK
				}
				if e := x.Add(y.P, y.V); e != want {
					t.Fatalf("seed %d: Add(%v) = %d, want %d", seed, y, e, want)
				}
			} else {
				want := api.ErrNone
				if at >= 0 {
					m, want = slices.Delete(m, at, at+1), api.OK
				}
				if e := x.Drop(y.P, y.V); e != want {
					t.Fatalf("seed %d: Drop(%v) = %d, want %d", seed, y, e, want)
				}
			}
			p, a := anyPrefix(r), anyPrefix(r).Addr|r.Uint32()>>r.IntN(32)
			same(t, "All", x.All(), m.meeting(api.Prefix{}))
			same(t, "Of", x.Of(a), m.of(a))
			same(t, "Meeting", x.Meeting(p), m.meeting(p))
			sized(t, x, len(m), m.size())
			if t.Failed() {
				t.Fatalf("seed %d, step %d", seed, step)
			}
		}
	}
}
