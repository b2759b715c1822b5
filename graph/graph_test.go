package graph_test

import (
	"math"
	"slices"
	"testing"

	"crossbuck/api"
	"crossbuck/bdd"
	"crossbuck/enc"
	"crossbuck/filter"
	"crossbuck/graph"
	"crossbuck/hdr"
	"crossbuck/step"
	"crossbuck/table"
)

// far are numbers that are no device and no set anywhere.
var far = []int{-1, -2, api.MaxNodes, 1 << 32, -1 << 32, math.MinInt, math.MaxInt}

// prefix is the one of four numbers, and so many bits.
func prefix(a, b, c, d uint32, n int) api.Prefix {
	return api.Prefix{Addr: a<<24 | b<<16 | c<<8 | d, Bits: n}
}

// arena has room for so many nodes.
func arena(t *testing.T, most int) *bdd.Arena {
	t.Helper()
	a, e := bdd.New(most)
	if e != api.OK {
		t.Fatalf("New(%d) = %d", most, e)
	}
	return a
}

// made is a net of a topology that may be, with rules that may be.
func made(t *testing.T, top api.Topo, l ...api.Rule) *step.Net {
	t.Helper()
	n, e := step.New(top)
	if e != api.OK {
		t.Fatalf("New = %d", e)
	}
	for _, r := range l {
		if e := n.Change(api.Change{Rule: r}); e != api.OK {
			t.Fatalf("Change(%v) = %d", r, e)
		}
	}
	return n
}

// line is so many devices, each with three ports: port 1 joined with port 0 of the next one, port 2 with nothing.
func line(devs int) api.Topo {
	var x api.Topo
	for dev := range devs {
		x.Ports = append(x.Ports, 3)
		if dev > 0 {
			x.Links = append(x.Links, api.Link{Dev: dev - 1, Port: 1, Peer: dev, PeerPort: 0})
		}
	}
	return x
}

// goes is the filter that what goes to a prefix passes.
func goes(p api.Prefix) api.Filter {
	f := filter.All()
	f.Dst = p
	return f
}

// set is what must be made.
func set(t *testing.T) func(f int, e api.Errno) int {
	return func(f int, e api.Errno) int {
		t.Helper()
		if e != api.OK {
			t.Fatalf("error %d", e)
		}
		return f
	}
}

// to is the set of what goes to a prefix.
func to(t *testing.T, a *bdd.Arena, p api.Prefix) int {
	t.Helper()
	return set(t)(enc.Prefix(a, hdr.Dst, p))
}

// besides is what a set has, and another one hasn't.
func besides(t *testing.T, a *bdd.Arena, f, g int) int {
	t.Helper()
	return set(t)(a.Join(bdd.Diff, f, g))
}

// of is Of, which must be.
func of(t *testing.T, a *bdd.Arena, n *step.Net, region int) *graph.Graph {
	t.Helper()
	g, e := graph.Of(a, n, region)
	if e != api.OK || g == nil || g.Region != region {
		t.Fatalf("Of(%d) = %v, %d", region, g, e)
	}
	return g
}

// same says that a graph's devices and edges must be those.
func same(t *testing.T, what string, g *graph.Graph, nodes []graph.Node, edges ...graph.Edge) {
	t.Helper()
	if !slices.Equal(g.Nodes, nodes) || !slices.Equal(g.Edges, edges) {
		t.Errorf("%s: %v, want %v, %v", what, *g, nodes, edges)
	}
}

// regions are some sets of an arena: none, all, parts of Dst, and what asks for other bits, too.
func regions(t *testing.T, a *bdd.Arena) []int {
	t.Helper()
	web := set(t)(enc.Filter(a, api.Filter{Dst: prefix(10, 0, 0, 0, 7), Src: prefix(1, 2, 0, 0, 16), Proto: 6, SPort: api.Range{High: 1023}, DPort: api.Range{Low: 80, High: 90}}))
	one := set(t)(enc.Header(a, api.Header{Dst: 10<<24 | 1<<16, DPort: 80}))
	odd := set(t)(a.Join(bdd.Xor, set(t)(a.Var(hdr.Dst+31)), set(t)(a.Var(hdr.DPort))))
	return []int{bdd.True, bdd.False, to(t, a, prefix(128, 0, 0, 0, 1)), to(t, a, prefix(0, 0, 0, 0, 3)), web, one, odd, set(t)(a.Not(web))}
}

// P14.1: the chapter's example, for nets of each number of devices, with entries and without.
func TestNoRule(t *testing.T) {
	a := arena(t, 1000)
	for _, region := range regions(t, a) {
		for devs := range api.MaxDevs {
			top := line(devs + 1)
			for range 2 {
				was := a.Len()
				same(t, "no rule", of(t, a, made(t, top), region), slices.Repeat([]graph.Node{{Hole: region}}, devs+1))
				if a.Len() != was {
					t.Errorf("%d nodes, %d ahead", a.Len(), was)
				}
				for range api.MaxACEs {
					top.ACEs = append(top.ACEs, api.ACE{Port: 2, F: goes(prefix(10, 0, 0, 0, 8))})
				}
			}
		}
	}
}

// R8: without rules no room is needed beside False and True, whatever entries there are.
func TestNoRuleNoRoom(t *testing.T) {
	top := line(2)
	for i := range api.MaxACEs {
		f := api.Filter{Dst: prefix(10, 0, 0, 0, 8), Src: prefix(11, 0, 0, 0, 8), Proto: 6, SPort: api.Range{Low: 1, High: 77}, DPort: api.Range{High: uint16(i)}}
		top.ACEs = append(top.ACEs, api.ACE{Dev: i & 1, Port: i >> 1 & 1, In: i>>2&1 == 1, F: f})
	}
	same(t, "all", of(t, arena(t, 2), made(t, top), bdd.True), []graph.Node{{Hole: bdd.True}, {Hole: bdd.True}})
	// Nor are rules asked for where the region has no header.
	n := made(t, top, api.Rule{ID: 1, Dst: prefix(10, 0, 0, 0, 8), Out: 1}, api.Rule{ID: 2, Dev: 1, Out: 2})
	same(t, "none", of(t, arena(t, 2), n, bdd.False), make([]graph.Node, 2))
}

// P14.1: how headers go on, or end, device by device, and port by port; what goes out of a port without a link is let out.
func TestOf(t *testing.T) {
	a := arena(t, 10000)
	ten, one, two := prefix(10, 0, 0, 0, 8), prefix(10, 1, 0, 0, 16), prefix(10, 2, 0, 0, 16)
	n := made(t, line(3),
		api.Rule{ID: 1, Dev: 2, Dst: ten, Out: 2},
		api.Rule{ID: 2, Dev: 2, Dst: one, Out: 0},
		api.Rule{ID: 3, Dev: 0, Dst: ten, Out: 1},
		api.Rule{ID: 4, Dev: 0, Dst: one, Out: api.Drop},
		api.Rule{ID: 5, Dev: 0, Dst: two, Out: 0},
		api.Rule{ID: 6, Dev: 1, Out: api.Drop},
	)
	others := set(t)(a.Not(to(t, a, ten)))
	near := besides(t, a, besides(t, a, to(t, a, ten), to(t, a, one)), to(t, a, two))
	g := of(t, a, n, bdd.True)
	same(t, "all", g, []graph.Node{{Hole: others, Drop: to(t, a, one)}, {Drop: bdd.True}, {Hole: others}},
		graph.Edge{Dev: 0, Port: 0, To: -1, Set: to(t, a, two)},
		graph.Edge{Dev: 0, Port: 1, To: 1, Set: near},
		graph.Edge{Dev: 2, Port: 0, To: 1, Set: to(t, a, one)},
		graph.Edge{Dev: 2, Port: 2, To: -1, Set: besides(t, a, to(t, a, ten), to(t, a, one))},
	)
	// Of a region that has headers of some edges alone.
	g = of(t, a, n, to(t, a, one))
	same(t, "10.1/16", g, []graph.Node{{Drop: g.Region}, {Drop: g.Region}, {}}, graph.Edge{Dev: 2, Port: 0, To: 1, Set: g.Region})
	g = of(t, a, n, to(t, a, prefix(128, 0, 0, 0, 1)))
	same(t, "128/1", g, []graph.Node{{Hole: g.Region}, {Drop: g.Region}, {Hole: g.Region}})
	// The headers of a region are told apart by other bits, too.
	web := set(t)(enc.Filter(a, api.Filter{Dst: two, Proto: 6, SPort: api.Range{High: 65535}, DPort: api.Range{Low: 80, High: 80}}))
	g = of(t, a, n, web)
	same(t, "10.2/16, port 80", g, []graph.Node{{}, {Drop: web}, {}},
		graph.Edge{Dev: 0, Port: 0, To: -1, Set: web}, graph.Edge{Dev: 2, Port: 2, To: -1, Set: web})
}

// P14.1: what isn't let out, or isn't let in at the other end, is denied at the device that it would go out of; what no header goes by is no edge.
func TestDenied(t *testing.T) {
	a := arena(t, 10000)
	ten, all := to(t, a, prefix(10, 0, 0, 0, 8)), prefix(0, 0, 0, 0, 0)
	others := set(t)(a.Not(ten))
	rules := []api.Rule{{ID: 1, Dev: 0, Out: 1}, {ID: 2, Dev: 1, Out: 2}}
	first, last := graph.Edge{Dev: 0, Port: 1, To: 1, Set: bdd.True}, graph.Edge{Dev: 1, Port: 2, To: -1, Set: bdd.True}
	some := func(x graph.Edge) graph.Edge { x.Set = others; return x }
	for _, x := range []struct {
		entry api.ACE
		nodes []graph.Node
		edges []graph.Edge
	}{
		{api.ACE{Dev: 0, Port: 1}, []graph.Node{{Denied: ten}, {}}, []graph.Edge{some(first), last}},
		{api.ACE{Dev: 1, Port: 0, In: true}, []graph.Node{{Denied: ten}, {}}, []graph.Edge{some(first), last}},
		{api.ACE{Dev: 1, Port: 2}, []graph.Node{{}, {Denied: ten}}, []graph.Edge{first, some(last)}},
		// These are of other ways.
		{api.ACE{Dev: 0, Port: 1, In: true}, make([]graph.Node, 2), []graph.Edge{first, last}},
		{api.ACE{Dev: 1, Port: 0}, make([]graph.Node, 2), []graph.Edge{first, last}},
		{api.ACE{Dev: 1, Port: 2, In: true}, make([]graph.Node, 2), []graph.Edge{first, last}},
		{api.ACE{Dev: 0, Port: 1, Permit: true}, make([]graph.Node, 2), []graph.Edge{first, last}},
	} {
		top := line(2)
		x.entry.F = goes(prefix(10, 0, 0, 0, 8))
		top.ACEs = []api.ACE{x.entry}
		same(t, "10/8", of(t, a, made(t, top, rules...), bdd.True), x.nodes, x.edges...)
	}
	// Nothing comes through at all.
	for _, entry := range []api.ACE{{Dev: 0, Port: 1, F: goes(all)}, {Dev: 1, Port: 0, In: true, F: goes(all)}} {
		top := line(2)
		top.ACEs = []api.ACE{entry}
		same(t, "all", of(t, a, made(t, top, rules...), bdd.True), []graph.Node{{Denied: bdd.True}, {}}, last)
	}
}

// P14.1: what several ports of a device don't let through is denied there all together; entries of both ends count.
func TestDeniedTogether(t *testing.T) {
	a := arena(t, 10000)
	low, high := prefix(0, 0, 0, 0, 1), prefix(128, 0, 0, 0, 1)
	proto := func(n int) api.Filter { f := filter.All(); f.Proto = n; return f }
	six, seven := set(t)(enc.Filter(a, proto(6))), set(t)(enc.Filter(a, proto(7)))
	top := line(2)
	top.ACEs = []api.ACE{{Dev: 0, Port: 1, F: proto(6)}, {Dev: 1, Port: 0, In: true, F: proto(7)}, {Dev: 0, Port: 2, F: proto(7)}}
	n := made(t, top, api.Rule{ID: 1, Dst: low, Out: 1}, api.Rule{ID: 2, Dst: high, Out: 2})
	either := set(t)(a.Join(bdd.Or, six, seven))
	first, second := besides(t, a, to(t, a, low), either), besides(t, a, to(t, a, high), seven)
	denied := besides(t, a, besides(t, a, bdd.True, first), second)
	same(t, "both ends", of(t, a, n, bdd.True), []graph.Node{{Denied: denied}, {Hole: bdd.True}},
		graph.Edge{Dev: 0, Port: 1, To: 1, Set: first}, graph.Edge{Dev: 0, Port: 2, To: -1, Set: second})
}

// P14.1: a link of a device with itself leads to that device; two links between two devices are two edges.
func TestLinks(t *testing.T) {
	a := arena(t, 1000)
	top := api.Topo{Ports: []int{2, 4}, Links: []api.Link{{Dev: 1, Port: 3, Peer: 1, PeerPort: 1}, {Dev: 0, Port: 0, Peer: 1, PeerPort: 2}, {Dev: 1, Port: 0, Peer: 0, PeerPort: 1}}}
	low, high := prefix(0, 0, 0, 0, 1), prefix(128, 0, 0, 0, 1)
	n := made(t, top, api.Rule{ID: 1, Dev: 0, Dst: low, Out: 1}, api.Rule{ID: 2, Dev: 0, Dst: high, Out: 0},
		api.Rule{ID: 3, Dev: 1, Dst: low, Out: 3}, api.Rule{ID: 4, Dev: 1, Dst: high, Out: 1})
	same(t, "links", of(t, a, n, bdd.True), make([]graph.Node, 2),
		graph.Edge{Dev: 0, Port: 0, To: 1, Set: to(t, a, high)}, graph.Edge{Dev: 0, Port: 1, To: 1, Set: to(t, a, low)},
		graph.Edge{Dev: 1, Port: 1, To: 1, Set: to(t, a, high)}, graph.Edge{Dev: 1, Port: 3, To: 1, Set: to(t, a, low)})
	// What comes in by the other end of such a link is asked for, too.
	top.ACEs = []api.ACE{{Dev: 1, Port: 3, In: true, F: filter.All()}}
	n = made(t, top, api.Rule{ID: 1, Dev: 1, Out: 1})
	same(t, "denied", of(t, a, n, bdd.True), []graph.Node{{Hole: bdd.True}, {Denied: bdd.True}})
}

// P14.1: the most devices and ports that there may be, each port with headers of its own.
func TestMost(t *testing.T) {
	a := arena(t, 1000)
	top := api.Topo{Ports: slices.Repeat([]int{api.MaxPorts}, api.MaxDevs)}
	n := made(t, top)
	var want []graph.Edge
	for i := range api.MaxDevs * api.MaxPorts {
		p := prefix(uint32(i%8)<<5, 0, 0, 0, 3)
		n.Change(api.Change{Rule: api.Rule{ID: i, Dev: i / 8, Dst: p, Out: i % 8}})
		want = append(want, graph.Edge{Dev: i / 8, Port: i % 8, To: -1, Set: to(t, a, p)})
	}
	same(t, "all", of(t, a, n, bdd.True), make([]graph.Node, api.MaxDevs), want...)
}

// P14.2: all sets, in the chapter's order; the edges from each device.
func TestSetsAndFrom(t *testing.T) {
	g := &graph.Graph{Region: 9, Nodes: []graph.Node{{1, 2, 3}, {4, 5, 6}}, Edges: []graph.Edge{{1, 2, 0, 7}, {0, 0, -1, 8}, {1, 1, 1, 7}, {5, 0, 0, 10}}}
	if got := g.Sets(); !slices.Equal(got, []int{9, 1, 2, 3, 4, 5, 6, 7, 8, 7, 10}) {
		t.Errorf("Sets %v", got)
	}
	from := func(dev int, want ...graph.Edge) {
		t.Helper()
		if got := g.From(dev); !slices.Equal(got, want) {
			t.Errorf("From(%d) = %v, want %v", dev, got, want)
		}
	}
	from(0, g.Edges[1])
	from(1, g.Edges[0], g.Edges[2])
	for _, dev := range append([]int{2, 3}, far...) {
		from(dev)
	}
	// R3: what is handed out is new memory.
	g.Sets()[0], g.Sets()[1], g.Sets()[7] = 77, 77, 77
	g.From(0)[0], g.From(1)[0] = graph.Edge{}, graph.Edge{}
	same(t, "kept", g, []graph.Node{{1, 2, 3}, {4, 5, 6}}, graph.Edge{1, 2, 0, 7}, graph.Edge{0, 0, -1, 8}, graph.Edge{1, 1, 1, 7}, graph.Edge{5, 0, 0, 10})
}

// P14.2: of a net's graph.
func TestSetsOfNet(t *testing.T) {
	a := arena(t, 1000)
	ten := to(t, a, prefix(10, 0, 0, 0, 8))
	others := set(t)(a.Not(ten))
	n := made(t, line(2), api.Rule{ID: 1, Dst: prefix(10, 0, 0, 0, 8), Out: 1}, api.Rule{ID: 2, Prio: -1, Out: 0}, api.Rule{ID: 3, Dev: 1, Dst: prefix(10, 0, 0, 0, 8), Out: api.Drop})
	g := of(t, a, n, bdd.True)
	if got := g.Sets(); !slices.Equal(got, []int{1, 0, 0, 0, others, ten, 0, others, ten}) {
		t.Errorf("Sets %v", got)
	}
	if got := g.From(0); !slices.Equal(got, []graph.Edge{{0, 0, -1, others}, {0, 1, 1, ten}}) {
		t.Errorf("From(0) = %v", got)
	}
	if got := g.From(1); len(got) != 0 {
		t.Errorf("From(1) = %v", got)
	}
}

// R1: a nil graph, and a zero one.
func TestNilGraph(t *testing.T) {
	var g *graph.Graph
	if got := g.Sets(); len(got) != 0 {
		t.Errorf("Sets %v", got)
	}
	if got := new(graph.Graph).Sets(); !slices.Equal(got, []int{0}) {
		t.Errorf("Sets %v", got)
	}
	for _, dev := range append([]int{0, 1}, far...) {
		if l, m := g.From(dev), new(graph.Graph).From(dev); len(l) != 0 || len(m) != 0 {
			t.Errorf("From(%d) = %v, %v", dev, l, m)
		}
	}
}

// refused says that Of must answer an error, and nothing else, and that no node is new.
func refused(t *testing.T, want api.Errno, a *bdd.Arena, n *step.Net, region int) {
	t.Helper()
	was := a.Len()
	if g, e := graph.Of(a, n, region); g != nil || e != want {
		t.Errorf("Of(%d) = %v, %d, want %d", region, g, e, want)
	}
	if a.Len() != was {
		t.Errorf("Of(%d): %d nodes, %d ahead", region, a.Len(), was)
	}
}

// Errors: a nil arena or net first; then a region that is no set's, also of a number that a node made on the way would have.
func TestErrors(t *testing.T) {
	n := made(t, line(2), api.Rule{ID: 1, Dst: prefix(10, 0, 0, 0, 8), Out: 1})
	for _, most := range []int{2, 5, 1000} {
		a := arena(t, most)
		for _, region := range append([]int{2, 3, 5}, far...) {
			refused(t, api.ErrNil, nil, n, region)
			refused(t, api.ErrNil, a, nil, region)
			refused(t, api.ErrNil, nil, nil, region)
			refused(t, api.ErrArg, a, n, region)
			refused(t, api.ErrArg, a, made(t, line(1)), region)
			refused(t, api.ErrArg, &bdd.Arena{}, n, region)
		}
		refused(t, api.ErrNil, nil, n, bdd.True)
		refused(t, api.ErrNil, a, nil, bdd.True)
	}
	refused(t, api.ErrFull, arena(t, 5), n, bdd.True)
	// A set that was cut is none any more.
	a := arena(t, 1000)
	ten := to(t, a, prefix(10, 0, 0, 0, 8))
	of(t, a, n, ten)
	a.Cut(ten)
	refused(t, api.ErrArg, a, n, ten)
}

// R3: a net isn't changed, and what it becomes later doesn't change a graph; no two answers are one memory.
func TestHanded(t *testing.T) {
	a := arena(t, 10000)
	top := line(3)
	top.ACEs = []api.ACE{{Dev: 1, Port: 0, In: true, F: goes(prefix(10, 1, 0, 0, 16))}}
	n := made(t, top, api.Rule{ID: 1, Dst: prefix(10, 0, 0, 0, 8), Out: 1}, api.Rule{ID: 2, Dev: 1, Out: 2})
	kept := n.Clone()
	g, again := of(t, a, n, bdd.True), of(t, a, n, bdd.True)
	if !slices.Equal(n.Topo.Ports, kept.Topo.Ports) || !slices.Equal(n.Topo.Links, kept.Topo.Links) || !slices.Equal(n.Topo.ACEs, kept.Topo.ACEs) {
		t.Errorf("topology %v, want %v", n.Topo, kept.Topo)
	}
	for dev, x := range n.Tables {
		if !slices.Equal(x.Rules(), kept.Tables[dev].Rules()) {
			t.Errorf("rules %v, want %v", x.Rules(), kept.Tables[dev].Rules())
		}
	}
	nodes, edges := slices.Clone(g.Nodes), slices.Clone(g.Edges)
	n.Change(api.Change{Del: true, Rule: api.Rule{ID: 1}})
	n.Topo.Links[0], n.Topo.ACEs[0] = api.Link{}, api.ACE{}
	same(t, "kept", g, nodes, edges...)
	g.Nodes[0], g.Edges[0] = graph.Node{}, graph.Edge{}
	same(t, "again", again, nodes, edges...)
	same(t, "of the clone", of(t, a, kept, bdd.True), nodes, edges...)
}

// R1: nets that no call gave: nothing is promised of them, but that each call ends, and that an error leaves the arena as it was.
func TestWrongNets(t *testing.T) {
	wild := []api.Link{{Dev: 0, Port: 0, Peer: 9, PeerPort: 0}, {Dev: 1, Port: 0, Peer: -1, PeerPort: math.MinInt}, {Dev: 2, Port: 0, Peer: 1, PeerPort: 1}}
	filled := table.New()
	for i, out := range append([]int{0, 1, api.Drop}, far...) {
		filled.Add(api.Rule{ID: i, Dev: i, Dst: prefix(uint32(i), 0, 0, 0, 8), Out: out})
	}
	few := table.New()
	few.Add(api.Rule{ID: 1, Dst: prefix(10, 0, 0, 0, 8)})
	bad := goes(api.Prefix{Addr: 1, Bits: 77})
	for _, n := range []*step.Net{
		{}, {Topo: line(3)}, {Tables: []*table.Table{nil, filled}}, {Topo: line(3), Tables: []*table.Table{few}},
		{Topo: line(2), Tables: []*table.Table{nil, few, filled, filled}}, {Topo: line(2), Tables: []*table.Table{few, filled}},
		{Topo: api.Topo{Ports: []int{1, -1, math.MaxInt}}, Tables: []*table.Table{few, few, few}},
		{Topo: api.Topo{Ports: []int{1, 1, 1}, Links: wild}, Tables: []*table.Table{few, nil, nil}},
		{Topo: api.Topo{Ports: []int{1, 1, 1}, Links: wild}, Tables: []*table.Table{nil, few, few}},
		{Topo: api.Topo{Ports: []int{1}, ACEs: []api.ACE{{F: bad}}}, Tables: []*table.Table{few}},
	} {
		a := arena(t, 1000)
		for _, region := range append(regions(t, a), far...) {
			was := a.Len()
			g, e := graph.Of(a, n, region)
			if (g == nil) != (e != api.OK) || e != api.OK && a.Len() != was {
				t.Errorf("Of(%v) = %v, %d", *n, g, e)
			}
			g.Sets()
			g.From(0)
		}
	}
}
