package port_test

import (
	"math/rand/v2"
	"slices"
	"testing"

	"crossbuck/api"
	"crossbuck/bdd"
	"crossbuck/cidr"
	"crossbuck/enc"
	"crossbuck/filter"
	"crossbuck/port"
	"crossbuck/sat"
	"crossbuck/table"
	"crossbuck/topo"
	"crossbuck/wide"
)

// has says whether a prefix has an address.
func has(p api.Prefix, a uint32) bool { return uint64(p.Addr)>>(32-p.Bits) == uint64(a)>>(32-p.Bits) }

// ahead says whether a rule is asked ahead of another one.
func ahead(a, b api.Rule) bool {
	if a.Prio != b.Prio {
		return a.Prio > b.Prio
	}
	if a.Dst.Bits != b.Dst.Bits {
		return a.Dst.Bits > b.Dst.Bits
	}
	return a.ID < b.ID
}

// hole is where the place of the headers stands that no rule has; drop that of those that are dropped.
const (
	hole = 100
	drop = -1
)

// place is where a header goes by a list of rules, of which each is asked.
func place(l []api.Rule, a uint32) int {
	out, best := hole, api.Rule{}
	for _, r := range l {
		if has(r.Dst, a) && (out == hole || ahead(r, best)) {
			out, best = r.Out, r
		}
	}
	return out
}

// cells are prefixes that together have all addresses, and in each of which all addresses go one way.
func cells(l []api.Rule, p api.Prefix) []api.Prefix {
	within := func(r api.Rule) bool { return r.Dst.Bits > p.Bits && has(p, r.Dst.Addr) }
	if !slices.ContainsFunc(l, within) {
		return []api.Prefix{p}
	}
	low, high := api.Prefix{Addr: p.Addr, Bits: p.Bits + 1}, api.Prefix{Addr: p.Addr | 1<<(31-p.Bits), Bits: p.Bits + 1}
	return append(cells(l, low), cells(l, high)...)
}

// at is the number that stands at a place of sets.
func at(s *port.Sets, place int) *int {
	switch place {
	case hole:
		return &s.Hole
	case drop:
		return &s.Drop
	}
	return &s.Out[place]
}

// model are the sets as the chapter says them: cell by cell, each at its place.
func model(t *testing.T, a *bdd.Arena, l []api.Rule, ports, region int) port.Sets {
	t.Helper()
	s := port.Sets{Out: make([]int, ports)}
	for _, p := range cells(l, api.Prefix{}) {
		f := at(&s, place(l, p.Addr))
		*f = set(t)(a.Join(bdd.Or, *f, set(t)(a.Join(bdd.And, region, to(t, a, p)))))
	}
	return s
}

// mixed are rules, for so many ports, whose prefixes lie close to each other: within the first bits, or within 10/8, or at the end of all addresses.
func mixed(r *rand.Rand, n, ports int) []api.Rule {
	base, first, last := uint32(0), 0, 5
	switch r.IntN(3) {
	case 0:
		base, first, last = 10<<24, 8, 13
	case 1:
		base, first, last = 0xfffffff0, 27, 32
	}
	var l []api.Rule
	for id := range n {
		a := base | r.Uint32()>>first
		l = append(l, api.Rule{ID: id, Dst: cidr.Of(a, first+r.IntN(last-first+1)), Prio: r.IntN(3), Out: r.IntN(ports+1) - 1})
	}
	return l
}

// P12.1, P12.2: sets have the numbers that they have when they are made cell by cell, so they have the same headers; so has what is unlike.
func TestModel(t *testing.T) {
	for seed := range uint64(40) {
		r := rand.New(rand.NewPCG(12, seed))
		a := arena(t, api.MaxNodes)
		ports := r.IntN(api.MaxPorts + 1)
		for _, region := range regions(t, a) {
			var sets [2]port.Sets
			for i := range sets {
				l := mixed(r, r.IntN(20), ports)
				sets[i] = of(t, a, rules(t, l...), ports, region)
				same(t, "model", sets[i], model(t, a, l, ports, region))
				partition(t, a, sets[i], region)
			}
			// What is in one set at one place, and in one at another place.
			want := bdd.False
			for i := range ports + 2 {
				for k := range ports + 2 {
					if i != k {
						both := set(t)(a.Join(bdd.And, *at(&sets[0], placeOf(i)), *at(&sets[1], placeOf(k))))
						want = set(t)(a.Join(bdd.Or, want, both))
					}
				}
			}
			if got := set(t)(port.Delta(a, sets[0], sets[1])); got != want {
				t.Errorf("Delta = %d, want %d", got, want)
			}
		}
		if t.Failed() {
			t.Fatalf("seed %d", seed)
		}
	}
}

// placeOf is the place of a number from 0 on: holes, what is dropped, then the ports.
func placeOf(i int) int {
	if i == 0 {
		return hole
	}
	return i - 2
}

// P12.3: no two sets have a header in common, and all together have the region's.
func partition(t *testing.T, a *bdd.Arena, s port.Sets, region int) {
	t.Helper()
	all, sum := bdd.False, wide.Count{}
	for _, f := range append([]int{s.Drop, s.Hole}, s.Out...) {
		if both := set(t)(a.Join(bdd.And, all, f)); both != bdd.False {
			t.Errorf("%v: %d is in two sets", s, both)
		}
		all = set(t)(a.Join(bdd.Or, all, f))
		sum = sum.Add(sat.Count(a, f))
	}
	if all != region || sum != sat.Count(a, region) {
		t.Errorf("%v: together %d, the region is %d", s, all, region)
	}
}

// W2: a header is in the set that a table's best rule says, and in no other one.
func TestHeaders(t *testing.T) {
	r := rand.New(rand.NewPCG(12, 1000))
	for range 60 {
		a := arena(t, api.MaxNodes)
		l := mixed(r, 1+r.IntN(30), 4)
		x := rules(t, l...)
		for _, region := range regions(t, a) {
			s := of(t, a, x, 4, region)
			for range 20 {
				// At the ends of a rule's prefix, and just beside them.
				p := l[r.IntN(len(l))].Dst
				h := api.Header{Dst: []uint32{p.Addr, p.Addr - 1, cidr.Last(p), cidr.Last(p) + 1, r.Uint32()}[r.IntN(5)], Src: r.Uint32(), DPort: uint16(r.Uint32())}
				want := place(l, h.Dst)
				for i := range 6 {
					if got := a.In(*at(&s, placeOf(i)), h); got != (a.In(region, h) && placeOf(i) == want) {
						t.Fatalf("%v at %d: %v; rules %v", h, placeOf(i), got, l)
					}
				}
			}
		}
	}
}

// passing is a filter of few bits, or of odd ports.
func passing(r *rand.Rand) api.Filter {
	f := filter.All()
	f.Dst = cidr.Of(uint32(r.IntN(8))<<29, r.IntN(4))
	f.Src = cidr.Of(uint32(r.IntN(8))<<29, r.IntN(3))
	if r.IntN(2) == 0 {
		f.Proto = 6 + r.IntN(2)
	}
	if r.IntN(2) == 0 {
		f.DPort = api.Range{Low: uint16(r.IntN(4)), High: uint16(4 + r.IntN(1000))}
	}
	if r.IntN(4) == 0 {
		f.SPort = api.Range{Low: 1, High: uint16(r.IntN(65535) + 1)}
	}
	return f
}

// P12.2, W2: a header is let through just if layer 5 says so; so it is by the entries asked one by one.
func TestPermitModel(t *testing.T) {
	r := rand.New(rand.NewPCG(12, 2000))
	a := arena(t, api.MaxNodes)
	for range 150 {
		a.Cut(2)
		x := api.Topo{Ports: []int{2, 2}}
		for range r.IntN(13) {
			x.ACEs = append(x.ACEs, api.ACE{Dev: r.IntN(2), Port: r.IntN(2), In: r.IntN(2) == 0, Permit: r.IntN(2) == 0, F: passing(r)})
		}
		if e := topo.Check(x); e != api.OK {
			t.Fatalf("Check = %d", e)
		}
		for i := range 8 {
			dev, n, in := i&1, i>>1&1, i>>2 == 1
			f := set(t)(port.Permit(a, x, dev, n, in))
			rest, want := bdd.True, bdd.True
			for _, y := range x.ACEs {
				if y.Dev != dev || y.Port != n || y.In != in {
					continue
				}
				own := set(t)(enc.Filter(a, y.F))
				if !y.Permit {
					want = set(t)(a.Join(bdd.Diff, want, set(t)(a.Join(bdd.And, rest, own))))
				}
				rest = set(t)(a.Join(bdd.Diff, rest, own))
			}
			if f != want {
				t.Fatalf("Permit(%v, %d, %d, %v) = %d, want %d", x, dev, n, in, f, want)
			}
			for range 20 {
				h := api.Header{Dst: r.Uint32(), Src: r.Uint32(), Proto: uint8(6 + r.IntN(3)), SPort: uint16(r.IntN(3)), DPort: uint16(r.IntN(6))}
				if got := a.In(f, h); got != topo.Permit(x, dev, n, in, h) {
					t.Fatalf("%v: %v; %v", h, got, x)
				}
			}
		}
	}
}

// R8: the greatest device, of MaxRules rules of 32 bits by eight ports, and the most entries that a topology may have.
func TestGreatest(t *testing.T) {
	r := rand.New(rand.NewPCG(12, 3000))
	a := arena(t, api.MaxNodes)
	x := table.New()
	for id := range api.MaxRules {
		x.Add(api.Rule{ID: id, Dst: cidr.Of(r.Uint32(), 32), Prio: r.IntN(api.MaxPrio + 1), Out: r.IntN(9) - 1})
	}
	partition(t, a, of(t, a, x, api.MaxPorts, bdd.True), bdd.True)
	a.Cut(2)
	top := api.Topo{Ports: []int{1}}
	for range api.MaxACEs {
		f := api.Filter{Dst: cidr.Of(r.Uint32(), 24+r.IntN(9)), Src: cidr.Of(r.Uint32(), 24+r.IntN(9)), Proto: r.IntN(256), SPort: api.Range{Low: 1, High: 1 + uint16(r.IntN(60000))}, DPort: api.Range{Low: 3, High: 3 + uint16(r.IntN(60000))}}
		top.ACEs = append(top.ACEs, api.ACE{Permit: r.IntN(2) == 0, F: f})
	}
	set(t)(port.Permit(a, top, 0, 0, false))
}
