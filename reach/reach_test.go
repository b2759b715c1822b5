package reach_test

import (
	"math"
	"slices"
	"testing"

	"crossbuck/api"
	"crossbuck/bdd"
	"crossbuck/enc"
	"crossbuck/filter"
	"crossbuck/graph"
	"crossbuck/hdr"
	"crossbuck/reach"
	"crossbuck/step"
)

// far are numbers that are no device and no set anywhere.
var far = []int{-1, -2, api.MaxNodes, 1 << 32, -1 << 32, math.MinInt, math.MaxInt}

// prefix is the one of four numbers, and so many bits.
func prefix(a, b, c, d uint32, n int) api.Prefix {
	return api.Prefix{Addr: a<<24 | b<<16 | c<<8 | d, Bits: n}
}

// arena has room for so many nodes.
func arena(t *testing.T, most int) *bdd.Arena {
	t.Helper()
	a, e := bdd.New(most)
	if e != api.OK {
		t.Fatalf("New(%d) = %d", most, e)
	}
	return a
}

// set is what must be made.
func set(t *testing.T) func(f int, e api.Errno) int {
	return func(f int, e api.Errno) int {
		t.Helper()
		if e != api.OK {
			t.Fatalf("error %d", e)
		}
		return f
	}
}

// to is the set of what goes to a prefix.
func to(t *testing.T, a *bdd.Arena, p api.Prefix) int {
	t.Helper()
	return set(t)(enc.Prefix(a, hdr.Dst, p))
}

// besides is what a set has, and another one hasn't.
func besides(t *testing.T, a *bdd.Arena, f, g int) int {
	t.Helper()
	return set(t)(a.Join(bdd.Diff, f, g))
}

// made is a net of a topology that may be, with rules that may be.
func made(t *testing.T, top api.Topo, l ...api.Rule) *step.Net {
	t.Helper()
	n, e := step.New(top)
	if e != api.OK {
		t.Fatalf("New = %d", e)
	}
	for _, r := range l {
		if e := n.Change(api.Change{Rule: r}); e != api.OK {
			t.Fatalf("Change(%v) = %d", r, e)
		}
	}
	return n
}

// of is a net's graph.
func of(t *testing.T, a *bdd.Arena, n *step.Net, region int) *graph.Graph {
	t.Helper()
	g, e := graph.Of(a, n, region)
	if e != api.OK {
		t.Fatalf("Of = %d", e)
	}
	return g
}

// net is the graph of all headers of a net.
func net(t *testing.T, a *bdd.Arena, top api.Topo, l ...api.Rule) *graph.Graph {
	t.Helper()
	return of(t, a, made(t, top, l...), bdd.True)
}

// line is so many devices, each with three ports: port 1 joined with port 0 of the next one, port 2 with nothing.
func line(devs int) api.Topo {
	var x api.Topo
	for dev := range devs {
		x.Ports = append(x.Ports, 3)
		if dev > 0 {
			x.Links = append(x.Links, api.Link{Dev: dev - 1, Port: 1, Peer: dev, PeerPort: 0})
		}
	}
	return x
}

// ring is a line whose last device is joined with the first one.
func ring(devs int) api.Topo {
	x := line(devs)
	x.Links = append(x.Links, api.Link{Dev: devs - 1, Port: 1, Peer: 0, PeerPort: 0})
	return x
}

// goes is the filter that what goes to a prefix passes.
func goes(p api.Prefix) api.Filter {
	f := filter.All()
	f.Dst = p
	return f
}

// equal says whether two flows are one.
func equal(f, g *reach.Flow) bool {
	return slices.Equal(f.At, g.At) && f.Loop == g.Loop && f.Hole == g.Hole && f.Drop == g.Drop && f.Denied == g.Denied && slices.Equal(f.Exits, g.Exits)
}

// from is From, which must be.
func from(t *testing.T, a *bdd.Arena, g *graph.Graph, dev, set int) *reach.Flow {
	t.Helper()
	f, e := reach.From(a, g, dev, set)
	if e != api.OK || f == nil {
		t.Fatalf("From(%d, %d) = %v, %d", dev, set, f, e)
	}
	return f
}

// flows says what From must answer.
func flows(t *testing.T, a *bdd.Arena, g *graph.Graph, dev, set int, want reach.Flow) {
	t.Helper()
	if f := from(t, a, g, dev, set); !equal(f, &want) {
		t.Errorf("From(%d, %d) = %v, want %v", dev, set, *f, want)
	}
}

// refused says that From must answer an error, and nothing else, and that no node is new.
func refused(t *testing.T, want api.Errno, a *bdd.Arena, g *graph.Graph, dev, set int) {
	t.Helper()
	was := a.Len()
	if f, e := reach.From(a, g, dev, set); f != nil || e != want {
		t.Errorf("From(%d, %d) = %v, %d, want %d", dev, set, f, e, want)
	}
	if a.Len() != was {
		t.Errorf("From(%d, %d): %d nodes, %d ahead", dev, set, a.Len(), was)
	}
}

// at are the sets at so many devices, of which one has a set.
func at(devs, dev, set int) []int {
	l := make([]int, devs)
	l[dev] = set
	return l
}

// sets are some of an arena: none, all, parts of Dst, and what asks for other bits, too.
func sets(t *testing.T, a *bdd.Arena) []int {
	t.Helper()
	web := set(t)(enc.Filter(a, api.Filter{Dst: prefix(10, 0, 0, 0, 7), Src: prefix(1, 2, 0, 0, 16), Proto: 6, SPort: api.Range{High: 1023}, DPort: api.Range{Low: 80, High: 90}}))
	one := set(t)(enc.Header(a, api.Header{Dst: 10<<24 | 1<<16, DPort: 80}))
	odd := set(t)(a.Join(bdd.Xor, set(t)(a.Var(hdr.Dst+31)), set(t)(a.Var(hdr.DPort))))
	return []int{bdd.True, bdd.False, to(t, a, prefix(128, 0, 0, 0, 1)), to(t, a, prefix(0, 0, 0, 0, 3)), web, one, odd, set(t)(a.Not(web))}
}

// P15.1: the chapter's example, at each device of each number of devices, for sets and regions of all kinds.
func TestNoRule(t *testing.T) {
	a := arena(t, 10000)
	for devs := 1; devs <= api.MaxDevs; devs++ {
		n := made(t, line(devs))
		for _, region := range sets(t, a) {
			g := of(t, a, n, region)
			for _, f := range sets(t, a) {
				both := set(t)(a.Join(bdd.And, region, f))
				for dev := range devs {
					flows(t, a, g, dev, f, reach.Flow{At: at(devs, dev, both), Hole: both})
				}
			}
		}
	}
}

// R8: where all that is made is there already, no room is needed.
func TestNoRuleNoRoom(t *testing.T) {
	a := arena(t, 2)
	g := net(t, a, line(2))
	flows(t, a, g, 1, bdd.True, reach.Flow{At: []int{0, 1}, Hole: bdd.True})
	flows(t, a, g, 0, bdd.False, reach.Flow{At: []int{0, 0}})
	g = net(t, a, ring(16), api.Rule{ID: 1, Dev: 0, Out: 1}, api.Rule{ID: 2, Dev: 1, Out: 2})
	flows(t, a, g, 0, bdd.True, reach.Flow{At: append([]int{1, 1}, make([]int, 14)...), Exits: []reach.Exit{{1, 2, bdd.True}}})
}

// P15.1: headers of each kind of end, from each device; those that are let out come to no other one.
func TestFrom(t *testing.T) {
	a := arena(t, 10000)
	ten, one, two := prefix(10, 0, 0, 0, 8), prefix(10, 1, 0, 0, 16), prefix(10, 2, 0, 0, 16)
	top := line(3)
	top.ACEs = []api.ACE{{Dev: 2, Port: 0, In: true, F: goes(two)}}
	g := net(t, a, top,
		api.Rule{ID: 1, Dev: 0, Dst: ten, Out: 1},
		api.Rule{ID: 2, Dev: 0, Dst: prefix(11, 0, 0, 0, 8), Out: 2},
		api.Rule{ID: 3, Dev: 1, Dst: ten, Out: 1},
		api.Rule{ID: 4, Dev: 1, Dst: one, Out: api.Drop},
		api.Rule{ID: 5, Dev: 2, Dst: ten, Out: 2},
		api.Rule{ID: 6, Dev: 2, Dst: prefix(10, 3, 0, 0, 16), Out: 0},
	)
	toTen, toOne, toTwo, loop := to(t, a, ten), to(t, a, one), to(t, a, two), to(t, a, prefix(10, 3, 0, 0, 16))
	eleven := to(t, a, prefix(11, 0, 0, 0, 8))
	through := besides(t, a, besides(t, a, toTen, toOne), toTwo)
	left := besides(t, a, through, loop)
	flows(t, a, g, 0, bdd.True, reach.Flow{
		At: []int{bdd.True, toTen, through}, Loop: loop, Hole: set(t)(a.Not(to(t, a, prefix(10, 0, 0, 0, 7)))), Drop: toOne, Denied: toTwo,
		Exits: []reach.Exit{{0, 2, eleven}, {2, 2, left}},
	})
	noTen := set(t)(a.Not(toTen))
	flows(t, a, g, 1, bdd.True, reach.Flow{At: []int{0, bdd.True, through}, Loop: loop, Hole: noTen, Drop: toOne, Denied: toTwo, Exits: []reach.Exit{{2, 2, left}}})
	// What comes to device 1 from device 2 comes back to device 2; the others are let out there, or end in a hole.
	flows(t, a, g, 2, bdd.True, reach.Flow{At: []int{0, loop, bdd.True}, Loop: loop, Hole: noTen, Exits: []reach.Exit{{2, 2, besides(t, a, toTen, loop)}}})
	// Of a set that has headers of some ends alone.
	flows(t, a, g, 0, toTwo, reach.Flow{At: []int{toTwo, toTwo, 0}, Denied: toTwo})
	flows(t, a, g, 0, toOne, reach.Flow{At: []int{toOne, toOne, 0}, Drop: toOne})
	flows(t, a, g, 0, loop, reach.Flow{At: []int{loop, loop, loop}, Loop: loop})
	flows(t, a, g, 0, eleven, reach.Flow{At: []int{eleven, 0, 0}, Exits: []reach.Exit{{0, 2, eleven}}})
	flows(t, a, g, 2, toTwo, reach.Flow{At: []int{0, 0, toTwo}, Exits: []reach.Exit{{2, 2, toTwo}}})
}

// P15.1: a header that comes to a device again runs in a loop: round, back where it came from, and by a link of a device with itself.
func TestLoop(t *testing.T) {
	a := arena(t, 1000)
	low, high := prefix(0, 0, 0, 0, 1), prefix(128, 0, 0, 0, 1)
	for devs := 1; devs <= api.MaxDevs; devs++ {
		var rules []api.Rule
		for dev := range devs {
			rules = append(rules, api.Rule{ID: dev, Dev: dev, Dst: high, Out: 1})
		}
		g := net(t, a, ring(devs), rules...)
		up, down := to(t, a, high), to(t, a, low)
		for dev := range devs {
			all := slices.Repeat([]int{up}, devs)
			all[dev] = bdd.True
			flows(t, a, g, dev, bdd.True, reach.Flow{At: all, Loop: up, Hole: down})
		}
	}
	// Into a loop that the first device isn't of.
	g := net(t, a, line(4), api.Rule{ID: 1, Dev: 0, Out: 1}, api.Rule{ID: 2, Dev: 1, Out: 1}, api.Rule{ID: 3, Dev: 2, Dst: high, Out: 0}, api.Rule{ID: 4, Dev: 2, Dst: low, Out: 1})
	up, down := to(t, a, high), to(t, a, low)
	flows(t, a, g, 0, bdd.True, reach.Flow{At: []int{1, 1, 1, down}, Loop: up, Hole: down})
	flows(t, a, g, 2, bdd.True, reach.Flow{At: []int{0, up, 1, down}, Loop: up, Hole: down})
}

// P15.1: ways of unlike lengths come together at a device, and part again there; what loops there isn't taken for what doesn't.
func TestTogether(t *testing.T) {
	a := arena(t, 1000)
	// Port 0 of device 0 leads to device 1, port 1 to device 3; 1 leads to 2, 2 to 3; 3 is let out by port 2.
	top := api.Topo{Ports: []int{2, 2, 2, 3}, Links: []api.Link{{Dev: 0, Port: 0, Peer: 1, PeerPort: 0}, {Dev: 0, Port: 1, Peer: 3, PeerPort: 0}, {Dev: 1, Port: 1, Peer: 2, PeerPort: 0}, {Dev: 2, Port: 1, Peer: 3, PeerPort: 1}}}
	low, high, part := prefix(0, 0, 0, 0, 1), prefix(128, 0, 0, 0, 1), prefix(64, 0, 0, 0, 2)
	rules := []api.Rule{{ID: 1, Dev: 0, Dst: low, Out: 0}, {ID: 2, Dev: 0, Dst: high, Out: 1}, {ID: 3, Dev: 1, Out: 1}, {ID: 4, Dev: 2, Out: 1}, {ID: 5, Dev: 3, Out: 2}}
	g := net(t, a, top, rules...)
	down := to(t, a, low)
	// Both come out by one port, which is told once.
	flows(t, a, g, 0, bdd.True, reach.Flow{At: []int{1, down, down, 1}, Exits: []reach.Exit{{3, 2, bdd.True}}})
	// Of the longer way some go back to device 0: they loop, and the others of that device are let out.
	g = net(t, a, top, append(rules, api.Rule{ID: 6, Dev: 3, Dst: part, Out: 0})...)
	loop := to(t, a, part)
	flows(t, a, g, 0, bdd.True, reach.Flow{At: []int{1, down, down, 1}, Loop: loop, Exits: []reach.Exit{{3, 2, set(t)(a.Not(loop))}}})
	// From device 3 these go round, too.
	flows(t, a, g, 3, bdd.True, reach.Flow{At: []int{loop, loop, loop, 1}, Loop: loop, Exits: []reach.Exit{{3, 2, set(t)(a.Not(loop))}}})
}

// P15.1: ports by which some are let out, device by device, port by port; none by which none is.
func TestExits(t *testing.T) {
	a := arena(t, 10000)
	top := line(4)
	var rules []api.Rule
	for dev := range 4 {
		rules = append(rules, api.Rule{ID: dev, Dev: dev, Out: min(1, 3-dev)}, api.Rule{ID: 10 + dev, Dev: dev, Dst: prefix(uint32(dev)<<6, 0, 0, 0, 2), Out: 2})
	}
	rules[6].Out = 1
	g := net(t, a, top, rules...)
	quarter := func(i uint32) int { return to(t, a, prefix(i<<6, 0, 0, 0, 2)) }
	f := from(t, a, g, 0, bdd.True)
	if want := []reach.Exit{{0, 2, quarter(0)}, {1, 2, quarter(1)}, {2, 2, quarter(2)}, {3, 2, quarter(3)}}; !slices.Equal(f.Exits, want) {
		t.Errorf("exits %v, want %v", f.Exits, want)
	}
	f = from(t, a, g, 1, bdd.True)
	if want := []reach.Exit{{1, 2, quarter(1)}, {2, 2, quarter(2)}, {3, 1, quarter(0)}, {3, 2, quarter(3)}}; !slices.Equal(f.Exits, want) {
		t.Errorf("exits %v, want %v", f.Exits, want)
	}
	f = from(t, a, g, 1, quarter(2))
	if want := []reach.Exit{{2, 2, quarter(2)}}; !slices.Equal(f.Exits, want) {
		t.Errorf("exits %v, want %v", f.Exits, want)
	}
}

// P15.2: the longest ways, through all devices that there may be, there and back.
func TestLongest(t *testing.T) {
	a := arena(t, 1000)
	low, high := prefix(0, 0, 0, 0, 1), prefix(128, 0, 0, 0, 1)
	var rules []api.Rule
	for dev := range api.MaxDevs {
		rules = append(rules, api.Rule{ID: dev, Dev: dev, Dst: low, Out: 1}, api.Rule{ID: 16 + dev, Dev: dev, Dst: high, Out: 0})
	}
	g := net(t, a, line(api.MaxDevs), rules...)
	down, up := to(t, a, low), to(t, a, high)
	for dev := range api.MaxDevs {
		all := slices.Concat(slices.Repeat([]int{up}, dev), []int{bdd.True}, slices.Repeat([]int{down}, api.MaxDevs-1-dev))
		flows(t, a, g, dev, bdd.True, reach.Flow{At: all, Exits: []reach.Exit{{0, 0, up}, {15, 1, down}}})
	}
}

// P15.1: just headers that both the set and the graph's region have count.
func TestRegion(t *testing.T) {
	a := arena(t, 10000)
	n := made(t, line(2), api.Rule{ID: 1, Dev: 0, Dst: prefix(10, 0, 0, 0, 8), Out: 1}, api.Rule{ID: 2, Dev: 1, Out: 2})
	six := set(t)(a.Cube(bdd.Lit{Var: hdr.Proto, On: true}))
	ten := to(t, a, prefix(10, 0, 0, 0, 8))
	g := of(t, a, n, six)
	both := set(t)(a.Join(bdd.And, ten, six))
	flows(t, a, g, 0, ten, reach.Flow{At: []int{both, both}, Exits: []reach.Exit{{1, 2, both}}})
	flows(t, a, g, 0, bdd.True, reach.Flow{At: []int{six, both}, Hole: besides(t, a, six, ten), Exits: []reach.Exit{{1, 2, both}}})
	flows(t, a, g, 0, set(t)(a.Not(six)), reach.Flow{At: []int{0, 0}})
	flows(t, a, of(t, a, n, bdd.False), 0, bdd.True, reach.Flow{At: []int{0, 0}})
}

// Errors: a nil arena or graph, then no such device, then no set's number, each ahead of a want of room.
func TestErrors(t *testing.T) {
	rule := api.Rule{ID: 1, Dst: prefix(10, 0, 0, 0, 8), Out: 1}
	for _, most := range []int{10, 1000} {
		a := arena(t, most)
		g := net(t, arena(t, 1000), line(3))
		if most > 10 {
			g = net(t, a, line(3), rule)
		}
		for _, f := range append([]int{0, 1, a.Len(), a.Len() + 5}, far...) {
			for _, dev := range append([]int{0, 3}, far...) {
				refused(t, api.ErrNil, nil, g, dev, f)
				refused(t, api.ErrNil, a, nil, dev, f)
				refused(t, api.ErrNil, nil, nil, dev, f)
				if dev != 0 {
					refused(t, api.ErrDevice, a, g, dev, f)
				} else if f > 1 || f < 0 {
					refused(t, api.ErrArg, a, g, dev, f)
				}
				refused(t, api.ErrDevice, a, &graph.Graph{}, dev, f)
			}
		}
	}
	a := arena(t, 20)
	g := net(t, a, line(3), rule)
	low := set(t)(a.Cube(bdd.Lit{Var: 0}, bdd.Lit{Var: 2}))
	if a.Len() != 20 {
		t.Fatalf("%d nodes", a.Len())
	}
	// For those of these that don't go to 10/8 there is no room.
	refused(t, api.ErrFull, a, g, 0, low)
	refused(t, api.ErrArg, a, g, 0, 20)
	refused(t, api.ErrDevice, a, g, 3, low)
}

// R3: a graph isn't changed, and no two answers are one memory.
func TestHanded(t *testing.T) {
	a := arena(t, 10000)
	g := net(t, a, line(3), api.Rule{ID: 1, Dev: 0, Dst: prefix(10, 0, 0, 0, 8), Out: 1}, api.Rule{ID: 2, Dev: 1, Out: 2}, api.Rule{ID: 3, Dev: 0, Out: 2})
	nodes, edges := slices.Clone(g.Nodes), slices.Clone(g.Edges)
	f, again := from(t, a, g, 0, bdd.True), from(t, a, g, 0, bdd.True)
	for i := range f.At {
		f.At[i] = -7
	}
	for i := range f.Exits {
		f.Exits[i] = reach.Exit{}
	}
	flows(t, a, g, 0, bdd.True, *again)
	if !slices.Equal(g.Nodes, nodes) || !slices.Equal(g.Edges, edges) || g.Region != bdd.True {
		t.Errorf("graph %v, want %v, %v", *g, nodes, edges)
	}
	if len(again.Exits) != 2 || again.At[0] != bdd.True {
		t.Errorf("flow %v", again)
	}
}

// R1: graphs that no call gave: nothing is promised of them, but that each call ends, and that an error leaves the arena as it was.
func TestWrongGraphs(t *testing.T) {
	var wild []graph.Edge
	for i, n := range append([]int{0, 1, 2}, far...) {
		wild = append(wild, graph.Edge{Dev: i % 3, Port: n, To: n, Set: bdd.True}, graph.Edge{Dev: n, Port: i, To: i, Set: bdd.True})
	}
	var everywhere []graph.Edge
	for i := range 16 {
		everywhere = append(everywhere, graph.Edge{Dev: i % 3, Port: i % 2, To: i%4 - 1, Set: bdd.True})
	}
	nodes := []graph.Node{{Hole: 1, Drop: 1, Denied: 1}, {Hole: 1, Denied: 1}, {Hole: 2, Drop: 3, Denied: 4}}
	for _, g := range []*graph.Graph{
		{}, {Region: 1}, {Nodes: make([]graph.Node, 3)}, {Region: 1, Nodes: nodes}, {Region: 1, Nodes: nodes, Edges: wild}, {Region: 1, Nodes: nodes, Edges: everywhere},
		{Region: 1, Edges: wild}, {Region: 3, Nodes: nodes, Edges: everywhere[:3]},
	} {
		a := arena(t, 1000)
		for _, f := range append(sets(t, a), far...) {
			for _, dev := range append([]int{0, 1, 2, 3}, far...) {
				was := a.Len()
				if f, e := reach.From(a, g, dev, f); (f == nil) != (e != api.OK) || e != api.OK && a.Len() != was {
					t.Errorf("From(%d) = %v, %d", dev, f, e)
				}
			}
		}
	}
}

// Errors: a graph whose sets are none of the arena's: it is of another one, or they were cut.
func TestNoSetsOfArena(t *testing.T) {
	a := arena(t, 1000)
	for _, n := range append([]int{2, 5}, far...) {
		for _, g := range []*graph.Graph{
			{Region: n, Nodes: make([]graph.Node, 1)},
			{Region: 1, Nodes: []graph.Node{{Hole: 1}, {Hole: n}}},
			{Region: 1, Nodes: []graph.Node{{Hole: 1}, {Drop: n}}},
			{Region: 1, Nodes: []graph.Node{{Hole: 1}, {Denied: n}}},
			{Region: 1, Nodes: []graph.Node{{Hole: 1}, {}}, Edges: []graph.Edge{{Dev: 1, To: -1, Set: n}}},
		} {
			refused(t, api.ErrArg, a, g, 0, bdd.True)
			refused(t, api.ErrDevice, a, g, 2, bdd.True)
		}
	}
	was := a.Len()
	g := net(t, a, line(2), api.Rule{ID: 1, Dst: prefix(10, 0, 0, 0, 8), Out: 1})
	a.Cut(was)
	refused(t, api.ErrArg, a, g, 0, bdd.True)
}
