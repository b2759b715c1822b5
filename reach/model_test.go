package reach_test

import (
	"math/rand/v2"
	"slices"
	"testing"

	"crossbuck/api"
	"crossbuck/bdd"
	"crossbuck/cidr"
	"crossbuck/enc"
	"crossbuck/filter"
	"crossbuck/reach"
	"crossbuck/sat"
	"crossbuck/step"
	"crossbuck/wide"
)

// bounds are ranges of ports that together have all of them.
func bounds() []api.Range {
	return []api.Range{{Low: 0, High: 79}, {Low: 80, High: 80}, {Low: 81, High: 65535}}
}

// few is a prefix of at most so many bits.
func few(r *rand.Rand, bits int) api.Prefix { return cidr.Of(r.Uint32(), r.IntN(bits+1)) }

// cells are filters that each header passes just one of, and in each of which all headers go one way in a net of mix.
func cells() []api.Filter {
	var l []api.Filter
	for i := range uint32(32) {
		for _, d := range bounds() {
			f := filter.All()
			f.Dst, f.Src, f.DPort = api.Prefix{Addr: i >> 1 << 28, Bits: 4}, api.Prefix{Addr: i & 1 << 31, Bits: 1}, d
			l = append(l, f)
		}
	}
	return l
}

// first is a header that passes a cell.
func first(f api.Filter) api.Header {
	return api.Header{Dst: f.Dst.Addr, Src: f.Src.Addr, DPort: f.DPort.Low}
}

// joined is a topology of so many devices: its links are ports taken two by two out of all, some left over.
func joined(r *rand.Rand, devs int) api.Topo {
	var top api.Topo
	var ports [][2]int
	for dev := range devs {
		top.Ports = append(top.Ports, 2+r.IntN(3))
		for port := range top.Ports[dev] {
			ports = append(ports, [2]int{dev, port})
		}
	}
	r.Shuffle(len(ports), func(i, k int) { ports[i], ports[k] = ports[k], ports[i] })
	for i := 0; i+1 < len(ports)-r.IntN(6); i += 2 {
		a, b := ports[i], ports[i+1]
		top.Links = append(top.Links, api.Link{Dev: a[0], Port: a[1], Peer: b[0], PeerPort: b[1]})
	}
	return top
}

// linked are ports of a device that have a link; others, if it has none.
func linked(top api.Topo, dev int) []int {
	var l []int
	for _, x := range top.Links {
		if x.Dev == dev {
			l = append(l, x.Port)
		}
		if x.Peer == dev {
			l = append(l, x.PeerPort)
		}
	}
	if len(l) == 0 {
		l = append(l, 0)
	}
	return l
}

// mix is a net whose rules and entries tell cells apart, and nothing less; most rules send to another device.
func mix(t *testing.T, r *rand.Rand) *step.Net {
	t.Helper()
	top := joined(r, 1+r.IntN(12))
	for range r.IntN(8) {
		f := api.Filter{Dst: few(r, 4), Src: few(r, 1), Proto: api.Any, SPort: api.Range{High: 65535}, DPort: api.Range{High: 65535}}
		if r.IntN(2) == 0 {
			f.DPort = bounds()[r.IntN(3)]
		}
		dev := r.IntN(len(top.Ports))
		top.ACEs = append(top.ACEs, api.ACE{Dev: dev, Port: r.IntN(top.Ports[dev]), In: r.IntN(2) == 0, Permit: r.IntN(2) == 0, F: f})
	}
	n := made(t, top)
	long := r.IntN(2) == 0
	for id := range r.IntN(60) {
		dev := id % len(top.Ports)
		l := linked(top, dev)
		x := api.Rule{ID: id, Dev: dev, Dst: few(r, 4), Prio: r.IntN(3), Out: l[r.IntN(len(l))]}
		if r.IntN(4) == 0 {
			x.Out = r.IntN(top.Ports[dev]+1) - 1
		}
		// Where nothing else is said of many headers, their ways are long.
		if long && id < len(top.Ports) {
			x.Dst = api.Prefix{}
		}
		n.Change(api.Change{Rule: x})
	}
	return n
}

// model is a flow as the chapter says it: cell by cell, each added to where the way of its first header comes, and ends.
func model(t *testing.T, a *bdd.Arena, n *step.Net, dev, f int) *reach.Flow {
	t.Helper()
	flow := &reach.Flow{At: make([]int, len(n.Topo.Ports))}
	for _, x := range cells() {
		own := set(t)(a.Join(bdd.And, f, set(t)(enc.Filter(a, x))))
		add := func(place *int) { *place = set(t)(a.Join(bdd.Or, *place, own)) }
		way, end, e := n.Trace(dev, first(x))
		if e != api.OK {
			t.Fatalf("Trace = %d", e)
		}
		for _, d := range way {
			add(&flow.At[d])
		}
		switch end.Kind {
		case step.Loop:
			add(&flow.Loop)
		case step.Hole:
			add(&flow.Hole)
		case step.Dropped:
			add(&flow.Drop)
		case step.Denied:
			add(&flow.Denied)
		case step.Left:
			i := slices.IndexFunc(flow.Exits, func(x reach.Exit) bool { return x.Dev == end.Dev && x.Port == end.Port })
			if i < 0 {
				i = len(flow.Exits)
				flow.Exits = append(flow.Exits, reach.Exit{Dev: end.Dev, Port: end.Port})
			}
			add(&flow.Exits[i].Set)
		}
	}
	flow.Exits = slices.DeleteFunc(flow.Exits, func(x reach.Exit) bool { return x.Set == bdd.False })
	slices.SortFunc(flow.Exits, func(x, y reach.Exit) int { return (x.Dev-y.Dev)*api.MaxPorts + x.Port - y.Port })
	return flow
}

// partition is P15.2: no two of the ends have a header in common, and all together have those of the set.
func partition(t *testing.T, a *bdd.Arena, f *reach.Flow, want int) {
	t.Helper()
	ends := []int{f.Loop, f.Hole, f.Drop, f.Denied}
	for _, x := range f.Exits {
		ends = append(ends, x.Set)
	}
	all, sum := bdd.False, wide.Count{}
	for _, x := range ends {
		if both := set(t)(a.Join(bdd.And, all, x)); both != bdd.False {
			t.Errorf("%v: %d is in two ends", *f, both)
		}
		all = set(t)(a.Join(bdd.Or, all, x))
		sum = sum.Add(sat.Count(a, x))
	}
	if all != want || sum != sat.Count(a, want) {
		t.Errorf("%v: together %d, want %d", *f, all, want)
	}
}

// P15.1, P15.2: sets have the numbers that they have when they are made cell by cell, so they have the same headers; all kinds of ends are met, and ways of many steps.
func TestModel(t *testing.T) {
	kinds := [6]int{}
	for seed := range uint64(60) {
		r := rand.New(rand.NewPCG(15, seed))
		n := mix(t, r)
		a := arena(t, api.MaxNodes)
		l := sets(t, a)
		for range 4 {
			region, f := l[r.IntN(len(l))], l[r.IntN(len(l))]
			if r.IntN(2) == 0 {
				region = bdd.True
			}
			g := of(t, a, n, region)
			both := set(t)(a.Join(bdd.And, region, f))
			for dev := range n.Topo.Ports {
				got := from(t, a, g, dev, f)
				if want := model(t, a, n, dev, both); !equal(got, want) {
					t.Errorf("From(%d) = %v, want %v", dev, *got, *want)
				}
				partition(t, a, got, both)
				for i, x := range []int{got.Loop, got.Hole, got.Drop, got.Denied, len(got.Exits)} {
					kinds[i] += min(x, 1)
				}
				met := slices.DeleteFunc(got.At, func(f int) bool { return f == bdd.False })
				if len(met) > 4 {
					kinds[5]++
				}
			}
		}
		if t.Failed() {
			t.Fatalf("seed %d: %v", seed, n.Topo)
		}
	}
	for i, n := range kinds {
		if n < 50 {
			t.Errorf("kind %d: %d", i, n)
		}
	}
}

// wild is a net like mix's, whose entries ask for all fields, and whose rules have up to 32 bits.
func wild(t *testing.T, r *rand.Rand) *step.Net {
	t.Helper()
	top := mix(t, r).Topo
	ports := func() api.Range {
		x, y := uint16(r.Uint32()), uint16(r.Uint32())
		return api.Range{Low: min(x, y), High: max(x, y)}
	}
	for i := range top.ACEs {
		top.ACEs[i].F = api.Filter{Dst: cidr.Of(r.Uint32()&7<<29, r.IntN(33)), Src: few(r, 3), Proto: r.IntN(4) - 1, SPort: ports(), DPort: ports()}
	}
	n := made(t, top)
	for id := range 60 {
		dev := r.IntN(len(top.Ports))
		l := append(linked(top, dev), api.Drop, 0)
		n.Change(api.Change{Rule: api.Rule{ID: id, Dev: dev, Dst: cidr.Of(r.Uint32()&7<<29|r.Uint32()&3, r.IntN(33)), Prio: r.IntN(3), Out: l[r.IntN(len(l))]}})
	}
	return n
}

// W2: a header is in the sets that its own way says, and in no other one.
func TestHeaders(t *testing.T) {
	for seed := range uint64(60) {
		r := rand.New(rand.NewPCG(15, 1000+seed))
		n := wild(t, r)
		a := arena(t, api.MaxNodes)
		l := sets(t, a)
		region, f := l[r.IntN(2)*r.IntN(len(l))], l[r.IntN(2)*r.IntN(len(l))]
		g := of(t, a, n, region)
		for dev := range n.Topo.Ports {
			flow := from(t, a, g, dev, f)
			partition(t, a, flow, set(t)(a.Join(bdd.And, region, f)))
			for range 60 {
				h := api.Header{Dst: r.Uint32()&7<<29 | r.Uint32()&3, Src: r.Uint32(), Proto: uint8(r.IntN(4)), SPort: uint16(r.Uint32()), DPort: uint16(r.Uint32())}
				way, end, _ := n.Trace(dev, h)
				inside := a.In(region, h) && a.In(f, h)
				for d, x := range flow.At {
					if a.In(x, h) != (inside && slices.Contains(way, d)) {
						t.Fatalf("%v at %d: %v, its way is %v", h, d, a.In(x, h), way)
					}
				}
				for kind, x := range []int{flow.Loop, flow.Hole, flow.Drop, flow.Denied} {
					if a.In(x, h) != (inside && end.Kind == kind) {
						t.Fatalf("%v, end %d: %v, it ends %v", h, kind, a.In(x, h), end)
					}
				}
				for _, x := range flow.Exits {
					if a.In(x.Set, h) != (inside && end == step.End{Kind: step.Left, Dev: x.Dev, Port: x.Port}) {
						t.Fatalf("%v: %v, it ends %v", h, x, end)
					}
				}
			}
		}
	}
}
