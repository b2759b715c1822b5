package batch_test

import (
	"cmp"
	"math/rand/v2"
	"slices"
	"testing"

	"crossbuck/api"
	"crossbuck/batch"
	"crossbuck/cidr"
	"crossbuck/filter"
	"crossbuck/region"
	"crossbuck/step"
)

// model is a net's rules as a plain list, in the order in which they came.
type model []api.Rule

// index is where a rule of an ID stands, below 0: nowhere.
func (m model) index(id int) int {
	return slices.IndexFunc(m, func(r api.Rule) bool { return r.ID == id })
}

// change is the list behind a change, the rule that came, or went, and what is wrong with it.
func (m model) change(top api.Topo, c api.Change) (model, api.Rule, api.Errno) {
	at, r := m.index(c.Rule.ID), c.Rule
	if c.Del {
		if at < 0 {
			return m, r, api.ErrNone
		}
		return slices.Concat(m[:at], m[at+1:]), m[at], api.OK
	}
	e := api.OK
	// From the last error that the chapters name to the first one, which is the one that is told.
	if len(m) >= api.MaxRules {
		e = api.ErrMany
	}
	if cidr.Of(r.Dst.Addr, r.Dst.Bits) != r.Dst {
		e = api.ErrPrefix
	}
	if at >= 0 {
		e = api.ErrThere
	}
	dev := r.Dev >= 0 && r.Dev < len(top.Ports)
	if dev && r.Out != api.Drop && (r.Out < 0 || r.Out >= top.Ports[r.Dev]) {
		e = api.ErrPort
	}
	if !dev {
		e = api.ErrDevice
	}
	if r.ID < 0 || r.ID > 1<<20 || r.Prio < 0 || r.Prio > 1000 {
		e = api.ErrRange
	}
	return append(slices.Clip(m), r), r, e
}

// apply is the list behind a batch, the rules that came, or went, and what is wrong with it.
func (m model) apply(top api.Topo, l []api.Change) (model, []api.Rule, batch.Rejected) {
	var moved []api.Rule
	for i, c := range l {
		next, r, e := m.change(top, c)
		if e != api.OK {
			return nil, nil, batch.Rejected{At: i, Err: e}
		}
		m, moved = next, append(moved, r)
	}
	return m, moved, batch.Rejected{At: -1}
}

// is says whether a net has just the list's rules.
func (m model) is(n *step.Net) bool {
	byID := func(a, b api.Rule) int { return cmp.Compare(a.ID, b.ID) }
	return slices.Equal(slices.SortedFunc(slices.Values(m), byID), slices.SortedFunc(slices.Values(list(n)), byID))
}

// random is a rule that mostly may be; a wrong one has one or more numbers that may not be.
func random(r *rand.Rand, wrong bool) api.Rule {
	x := api.Rule{ID: r.IntN(40), Dev: r.IntN(3), Dst: cidr.Of(r.Uint32(), r.IntN(8)), Prio: r.IntN(3), Out: r.IntN(4) - 1}
	if !wrong {
		return x
	}
	for range 1 + r.IntN(3) {
		switch r.IntN(5) {
		case 0:
			x.ID = []int{-1, 1<<20 + 1}[r.IntN(2)]
		case 1:
			x.Dev = []int{-1, 3}[r.IntN(2)]
		case 2:
			x.Dst = api.Prefix{Addr: 1, Bits: r.IntN(32)}
		case 3:
			x.Prio = []int{-1, 1001}[r.IntN(2)]
		case 4:
			x.Out = []int{-2, 3}[r.IntN(2)]
		}
	}
	return x
}

// changes is a batch at random: changes that may be, one behind the other, and now and then one that may not be.
func changes(r *rand.Rand, m model, top api.Topo, wrong int) []api.Change {
	var l []api.Change
	for want := 1 + r.IntN(api.MaxBatch); len(l) < want; {
		c := api.Change{Rule: random(r, r.IntN(2) == 0)}
		if len(m) > 0 && r.IntN(5) < 2 {
			c = api.Change{Del: true, Rule: api.Rule{ID: m[r.IntN(len(m))].ID, Dev: -3, Prio: r.IntN(9)}}
		}
		next, _, e := m.change(top, c)
		if e == api.OK {
			m = next
		} else if r.IntN(100) >= wrong {
			continue
		}
		l = append(l, c)
	}
	return l
}

// P17.1, P17.2: batch by batch as a plain list says, both those that may be and those that may not.
func TestAgainstModel(t *testing.T) {
	r := rand.New(rand.NewPCG(17, 1))
	top := ring(3)
	taken, not := 0, 0
	for range 150 {
		n := made(t, top)
		var m model
		for range 12 {
			l := changes(r, m, top, 3)
			next, moved, want := m.apply(top, l)
			was := n.Clone()
			got, e := batch.Apply(n, l)
			if e != want || (got == nil) != (want.Err != api.OK) || !m.is(n) {
				t.Fatalf("Apply(%v) of %v = %v, want %v", l, m, e, want)
			}
			stays(t, n, was, nil, nil)
			if got == nil {
				not++
				continue
			}
			taken++
			if !next.is(got) {
				t.Fatalf("behind %v: %v, want %v", l, list(got), next)
			}
			undone(t, n, got, l, moved)
			n, m = got, next
		}
	}
	if taken < 500 || not < 300 {
		t.Errorf("%d batches were taken, and %d not: the test says little", taken, not)
	}
}

// undone says what Prefixes, Regions and Back must be of a batch that was taken, by the rules that came, or went.
func undone(t *testing.T, n, next *step.Net, l []api.Change, moved []api.Rule) {
	t.Helper()
	var p []api.Prefix
	var back []api.Change
	for i, r := range moved {
		p = append(p, r.Dst)
		c := api.Change{Rule: r}
		if !l[i].Del {
			c = api.Change{Del: true, Rule: api.Rule{ID: r.ID}}
		}
		back = slices.Insert(back, 0, c)
	}
	if got := batch.Prefixes(n, l); !slices.Equal(got, p) {
		t.Fatalf("Prefixes(%v) = %v, want %v", l, got, p)
	}
	for shift := range 4 {
		if got := batch.Regions(n, l, shift); !slices.Equal(got, touched(shift, p)) {
			t.Fatalf("Regions(%v, %d) = %v, want %v", l, shift, got, touched(shift, p))
		}
	}
	got := batch.Back(n, l)
	if !slices.Equal(got, back) {
		t.Fatalf("Back(%v) = %v, want %v", l, got, back)
	}
	home, e := batch.Apply(next, got)
	if e != (batch.Rejected{At: -1}) || !slices.Equal(list(home), list(n)) {
		t.Fatalf("Back(%v) leads to %v, %v", l, home, e)
	}
}

// touched are the regions of several prefixes, asked one by one of each pair of addresses.
func touched(shift int, l []api.Prefix) []int {
	var out []int
	for i := range 1 << shift {
		low := uint64(i) << (32 - shift)
		high := low + 1<<(32-shift) - 1
		for _, p := range l {
			first := uint64(p.Addr)
			if first <= high && low < first+1<<(32-p.Bits) {
				out = append(out, i)
				break
			}
		}
	}
	return out
}

// mixed is a ring with some entries, of few fields.
func mixed(r *rand.Rand) api.Topo {
	top := ring(3)
	for range r.IntN(6) {
		f := filter.All()
		f.Dst, f.Src = cidr.Of(r.Uint32(), r.IntN(3)), cidr.Of(r.Uint32(), r.IntN(2))
		ace := api.ACE{Dev: r.IntN(3), Port: r.IntN(3), In: r.IntN(2) == 0, Permit: r.IntN(2) == 0, F: f}
		top.ACEs = append(top.ACEs, ace)
	}
	return top
}

// P17.3: a header whose Dst is of no region that is touched goes as it did; of those that are touched some don't.
func TestOtherRegions(t *testing.T) {
	r := rand.New(rand.NewPCG(17, 2))
	as, not := 0, 0
	for range 300 {
		top := mixed(r)
		n := made(t, top)
		var m model
		for range 6 {
			l := changes(r, m, top, 0)
			l = l[:min(len(l), 1+r.IntN(5))]
			shift := r.IntN(4)
			regions := batch.Regions(n, l, shift)
			got, e := batch.Apply(n, l)
			if e.Err != api.OK {
				t.Fatalf("Apply(%v) = %v", l, e)
			}
			for range 40 {
				h, dev := api.Header{Dst: r.Uint32(), Src: r.Uint32()}, r.IntN(3)
				way, end, _ := n.Trace(dev, h)
				then, at, _ := got.Trace(dev, h)
				goes := slices.Equal(way, then) && end == at
				if !goes {
					not++
				} else if !slices.Contains(regions, region.Index(shift, h.Dst)) {
					as++
				}
				if !goes && !slices.Contains(regions, region.Index(shift, h.Dst)) {
					t.Fatalf("%v, %v touch %v: %v went %v, %v, then %v, %v", list(n), l, regions, h, way, end, then, at)
				}
			}
			m, _, _ = m.apply(top, l)
			n = got
		}
	}
	if as < 1000 || not < 1000 {
		t.Errorf("%d headers of no region that is touched, %d that go otherwise: the test says little", as, not)
	}
}
