package graph_test

import (
	"math/rand/v2"
	"testing"

	"crossbuck/api"
	"crossbuck/bdd"
	"crossbuck/cidr"
	"crossbuck/enc"
	"crossbuck/filter"
	"crossbuck/graph"
	"crossbuck/sat"
	"crossbuck/step"
	"crossbuck/wide"
)

// bounds are ranges of ports that together have all of them.
func bounds() []api.Range {
	return []api.Range{{Low: 0, High: 79}, {Low: 80, High: 80}, {Low: 81, High: 65535}}
}

// few is a prefix of at most so many bits.
func few(r *rand.Rand, bits int) api.Prefix { return cidr.Of(r.Uint32(), r.IntN(bits+1)) }

// cells are filters that each header passes just one of, and in each of which all headers go one way in a net of mix.
func cells() []api.Filter {
	var l []api.Filter
	for i := range uint32(32) {
		for _, d := range bounds() {
			f := filter.All()
			f.Dst, f.Src, f.DPort = api.Prefix{Addr: i >> 1 << 28, Bits: 4}, api.Prefix{Addr: i & 1 << 31, Bits: 1}, d
			l = append(l, f)
		}
	}
	return l
}

// first is a header that passes a cell.
func first(f api.Filter) api.Header {
	return api.Header{Dst: f.Dst.Addr, Src: f.Src.Addr, DPort: f.DPort.Low}
}

// mix is a net: its links are ports taken two by two out of all, some left over; its rules and entries tell cells apart, and nothing less.
func mix(t *testing.T, r *rand.Rand) *step.Net {
	t.Helper()
	var top api.Topo
	var ports [][2]int
	for dev := range 1 + r.IntN(6) {
		top.Ports = append(top.Ports, r.IntN(5))
		for port := range top.Ports[dev] {
			ports = append(ports, [2]int{dev, port})
		}
	}
	r.Shuffle(len(ports), func(i, k int) { ports[i], ports[k] = ports[k], ports[i] })
	for i := 0; i+1 < len(ports) && r.IntN(8) > 0; i += 2 {
		a, b := ports[i], ports[i+1]
		top.Links = append(top.Links, api.Link{Dev: a[0], Port: a[1], Peer: b[0], PeerPort: b[1]})
	}
	for range r.IntN(16) {
		if len(ports) > 0 {
			p := ports[r.IntN(len(ports))]
			f := api.Filter{Dst: few(r, 4), Src: few(r, 1), Proto: api.Any, SPort: api.Range{High: 65535}, DPort: api.Range{High: 65535}}
			if r.IntN(2) == 0 {
				f.DPort = bounds()[r.IntN(3)]
			}
			top.ACEs = append(top.ACEs, api.ACE{Dev: p[0], Port: p[1], In: r.IntN(2) == 0, Permit: r.IntN(2) == 0, F: f})
		}
	}
	n := made(t, top)
	for id := range r.IntN(40) {
		dev := r.IntN(len(top.Ports))
		n.Change(api.Change{Rule: api.Rule{ID: id, Dev: dev, Dst: few(r, 4), Prio: r.IntN(3), Out: r.IntN(top.Ports[dev]+1) - 1}})
	}
	return n
}

// model is a graph as the chapter says it: cell by cell, each added to where a step of its first header goes.
func model(t *testing.T, a *bdd.Arena, n *step.Net, region int) *graph.Graph {
	t.Helper()
	g := &graph.Graph{Region: region, Nodes: make([]graph.Node, len(n.Topo.Ports))}
	for dev, ports := range n.Topo.Ports {
		edges := make([]graph.Edge, ports)
		for _, f := range cells() {
			own := set(t)(a.Join(bdd.And, region, set(t)(enc.Filter(a, f))))
			next, end, moved := n.Step(dev, first(f))
			by, to := end.Port, -1
			if moved {
				// Where a step goes on, the best rule says by which port.
				best, _ := n.Tables[dev].Best(f.Dst.Addr)
				by, to = best.Out, next
			}
			x := &g.Nodes[dev]
			place := &x.Hole
			switch {
			case moved || end.Kind == step.Left:
				edges[by] = graph.Edge{Dev: dev, Port: by, To: to, Set: edges[by].Set}
				place = &edges[by].Set
			case end.Kind == step.Dropped:
				place = &x.Drop
			case end.Kind == step.Denied:
				place = &x.Denied
			}
			*place = set(t)(a.Join(bdd.Or, *place, own))
		}
		for _, x := range edges {
			if x.Set != bdd.False {
				g.Edges = append(g.Edges, x)
			}
		}
	}
	return g
}

// partition is P14.3: no two of a device's sets have a header in common, and all together have the region's.
func partition(t *testing.T, a *bdd.Arena, g *graph.Graph) {
	t.Helper()
	for dev, n := range g.Nodes {
		all, sum := bdd.False, wide.Count{}
		sets := []int{n.Hole, n.Drop, n.Denied}
		for _, x := range g.From(dev) {
			sets = append(sets, x.Set)
		}
		for _, f := range sets {
			if both := set(t)(a.Join(bdd.And, all, f)); both != bdd.False {
				t.Errorf("%v: %d is in two sets", *g, both)
			}
			all = set(t)(a.Join(bdd.Or, all, f))
			sum = sum.Add(sat.Count(a, f))
		}
		if all != g.Region || sum != sat.Count(a, g.Region) {
			t.Errorf("%v: together %d", *g, all)
		}
	}
}

// P14.1, P14.3: sets have the numbers that they have when they are made cell by cell, so they have the same headers.
func TestModel(t *testing.T) {
	kinds := [5]int{}
	for seed := range uint64(60) {
		r := rand.New(rand.NewPCG(14, seed))
		n := mix(t, r)
		a := arena(t, api.MaxNodes)
		for _, region := range regions(t, a) {
			g := of(t, a, n, region)
			want := model(t, a, n, region)
			same(t, "model", g, want.Nodes, want.Edges...)
			partition(t, a, g)
			for i, x := range g.Nodes {
				kinds[0] += min(x.Hole, 1)
				kinds[1] += min(x.Drop, 1)
				kinds[2] += min(x.Denied, 1)
				kinds[3] += len(g.From(i))
			}
			for _, x := range g.Edges {
				kinds[4] += min(x.To+1, 1)
			}
		}
		if t.Failed() {
			t.Fatalf("seed %d: %v", seed, n.Topo)
		}
	}
	for i, n := range kinds {
		if n < 100 {
			t.Errorf("kind %d: %d", i, n)
		}
	}
}

// wild is a net like mix's, whose entries ask for all fields, and whose rules have up to 32 bits.
func wild(t *testing.T, r *rand.Rand) *step.Net {
	t.Helper()
	top := mix(t, r).Topo
	ports := func() api.Range {
		x, y := uint16(r.Uint32()), uint16(r.Uint32())
		return api.Range{Low: min(x, y), High: max(x, y)}
	}
	for i := range top.ACEs {
		top.ACEs[i].F = api.Filter{Dst: cidr.Of(r.Uint32()&7<<29, r.IntN(33)), Src: few(r, 3), Proto: r.IntN(4) - 1, SPort: ports(), DPort: ports()}
	}
	n := made(t, top)
	for id := range r.IntN(60) {
		dev := r.IntN(len(top.Ports))
		n.Change(api.Change{Rule: api.Rule{ID: id, Dev: dev, Dst: cidr.Of(r.Uint32()&7<<29|r.Uint32()&3, r.IntN(33)), Prio: r.IntN(3), Out: r.IntN(top.Ports[dev]+1) - 1}})
	}
	return n
}

// W2: a header is in the set that its own step says, and in no other one.
func TestHeaders(t *testing.T) {
	for seed := range uint64(60) {
		r := rand.New(rand.NewPCG(14, 1000+seed))
		n := wild(t, r)
		a := arena(t, api.MaxNodes)
		for _, region := range regions(t, a) {
			g := of(t, a, n, region)
			partition(t, a, g)
			for range 40 {
				h := api.Header{Dst: r.Uint32()&7<<29 | r.Uint32()&3, Src: r.Uint32(), Proto: uint8(r.IntN(4)), SPort: uint16(r.Uint32()), DPort: uint16(r.Uint32())}
				for dev, x := range g.Nodes {
					next, end, moved := n.Step(dev, h)
					inside := a.In(region, h)
					ends := func(kind int) bool { return inside && !moved && end.Kind == kind }
					if a.In(x.Hole, h) != ends(step.Hole) || a.In(x.Drop, h) != ends(step.Dropped) || a.In(x.Denied, h) != ends(step.Denied) {
						t.Fatalf("%v at %d: %v, %v, %v; it ends %v", h, dev, a.In(x.Hole, h), a.In(x.Drop, h), a.In(x.Denied, h), end)
					}
					best, _ := n.Tables[dev].Best(h.Dst)
					for _, y := range g.From(dev) {
						goes := inside && best.Out == y.Port && (moved && y.To == next || ends(step.Left) && y.To == -1)
						if a.In(y.Set, h) != goes {
							t.Fatalf("%v: %v, by %d to %d, ends %v", h, y, best.Out, next, end)
						}
					}
				}
			}
		}
	}
}
