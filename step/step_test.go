package step_test

import (
	"math"
	"slices"
	"testing"

	"crossbuck/api"
	"crossbuck/filter"
	"crossbuck/step"
	"crossbuck/table"
)

// far are numbers that are no device and no port anywhere, and below 0 no Drop.
var far = []int{-2, -16, 128, 1 << 32, -1 << 32, math.MinInt, math.MaxInt}

// prefix is the one of four numbers, and so many bits.
func prefix(a, b, c, d uint32, n int) api.Prefix {
	return api.Prefix{Addr: a<<24 | b<<16 | c<<8 | d, Bits: n}
}

// made is a net of a topology that may be, with rules that may be.
func made(t *testing.T, top api.Topo, l ...api.Rule) *step.Net {
	t.Helper()
	n, e := step.New(top)
	if e != api.OK {
		t.Fatalf("New = %d", e)
	}
	for _, r := range l {
		come(t, n, api.OK, r)
	}
	return n
}

// come says how the coming of a rule must end.
func come(t *testing.T, n *step.Net, want api.Errno, r api.Rule) {
	t.Helper()
	if e := n.Change(api.Change{Rule: r}); e != want {
		t.Errorf("%v comes: %d, want %d", r, e, want)
	}
}

// leave says how the going of a rule must end; all that isn't its ID is spoilt, as it doesn't count.
func leave(t *testing.T, n *step.Net, want api.Errno, id int) {
	t.Helper()
	r := api.Rule{ID: id, Dev: -7, Dst: api.Prefix{Addr: 1, Bits: 99}, Prio: math.MinInt, Out: 77}
	if e := n.Change(api.Change{Del: true, Rule: r}); e != want {
		t.Errorf("%d goes: %d, want %d", id, e, want)
	}
}

// way says what the way of a header must be; the last step of it, too.
func way(t *testing.T, n *step.Net, h api.Header, end step.End, want ...int) {
	t.Helper()
	got, e, err := n.Trace(want[0], h)
	if err != api.OK || e != end || !slices.Equal(got, want) {
		t.Errorf("Trace(%d, %v) = %v, %v, %d, want %v, %v", want[0], h, got, e, err, want, end)
	}
	for i, dev := range want {
		next, last, moved := n.Step(dev, h)
		switch {
		case i+1 < len(want):
			moved = moved && next == want[i+1] && last == step.End{}
		case end.Kind == step.Loop:
			moved = moved && next == end.Dev && last == step.End{}
		default:
			moved = !moved && next == 0 && last == end
		}
		if !moved {
			t.Errorf("Step(%d, %v) = %d, %v", dev, h, next, last)
		}
	}
}

// line is so many devices, each with three ports: port 1 joined with port 0 of the next one, port 2 with nothing.
func line(devs int) api.Topo {
	var x api.Topo
	for dev := range devs {
		x.Ports = append(x.Ports, 3)
		if dev > 0 {
			x.Links = append(x.Links, api.Link{Dev: dev - 1, Port: 1, Peer: dev, PeerPort: 0})
		}
	}
	return x
}

// goes is the filter that what goes to a prefix passes.
func goes(p api.Prefix) api.Filter {
	f := filter.All()
	f.Dst = p
	return f
}

// The chapter's numbers.
func TestKinds(t *testing.T) {
	if got := []int{step.Loop, step.Hole, step.Dropped, step.Denied, step.Left}; !slices.Equal(got, []int{0, 1, 2, 3, 4}) {
		t.Errorf("kinds %v", got)
	}
}

// P13.1, and the chapter's example.
func TestNew(t *testing.T) {
	for _, x := range []api.Topo{{Ports: []int{0}}, line(1), line(16), {Ports: []int{8, 0, 3}, ACEs: []api.ACE{{Dev: 2, F: filter.All()}}}} {
		n := made(t, x)
		if n.Len() != 0 || n.Has(0) || n.Has(1) || n.Has(-1) || len(n.Tables) != len(x.Ports) {
			t.Errorf("%v: Len %d, Has %v %v %v, %d tables", x, n.Len(), n.Has(0), n.Has(1), n.Has(-1), len(n.Tables))
		}
		if !slices.Equal(n.Topo.Ports, x.Ports) || !slices.Equal(n.Topo.Links, x.Links) || !slices.Equal(n.Topo.ACEs, x.ACEs) {
			t.Errorf("topology %v, want %v", n.Topo, x)
		}
		for dev := range x.Ports {
			for _, h := range []api.Header{{}, {Dst: math.MaxUint32}, {Dst: 10 << 24, Src: 1, Proto: 2, SPort: 3, DPort: 4}} {
				way(t, n, h, step.End{Kind: step.Hole, Dev: dev, Port: -1}, dev)
			}
		}
	}
}

// Errors: New tells layer 5's Check, and gives no net.
func TestNewErrors(t *testing.T) {
	bad := goes(prefix(10, 0, 0, 0, 8))
	bad.Dst.Bits = 3
	for _, x := range []struct {
		t    api.Topo
		want api.Errno
	}{
		{api.Topo{}, api.ErrMany},
		{line(17), api.ErrMany},
		{api.Topo{Ports: []int{9}}, api.ErrPort},
		{api.Topo{Ports: []int{-1}}, api.ErrPort},
		{api.Topo{Ports: []int{1}, Links: []api.Link{{Peer: 1}}}, api.ErrDevice},
		{api.Topo{Ports: []int{1, 1}, Links: []api.Link{{Peer: 1, PeerPort: 1}}}, api.ErrPort},
		{api.Topo{Ports: []int{1, 1}, Links: []api.Link{{}}}, api.ErrLink},
		{api.Topo{Ports: []int{1}, ACEs: []api.ACE{{F: bad}}}, api.ErrPrefix},
	} {
		if n, e := step.New(x.t); n != nil || e != x.want {
			t.Errorf("New(%v) = %v, %d, want %d", x.t, n, e, x.want)
		}
	}
}

// P13.2: each kind of end, at the device and by the port that the chapter says.
func TestEnds(t *testing.T) {
	ten, one := prefix(10, 0, 0, 0, 8), prefix(10, 1, 0, 0, 16)
	there, near, beside := api.Header{Dst: 10 << 24}, api.Header{Dst: 10<<24 | 1<<16}, api.Header{Dst: 11 << 24}
	n := made(t, line(3), api.Rule{ID: 1, Dev: 0, Dst: ten, Out: 1}, api.Rule{ID: 2, Dev: 1, Dst: ten, Out: 1})
	hole := func(dev int) step.End { return step.End{Kind: step.Hole, Dev: dev, Port: -1} }
	way(t, n, there, hole(2), 0, 1, 2)
	way(t, n, there, hole(2), 1, 2)
	way(t, n, there, hole(2), 2)
	way(t, n, beside, hole(0), 0)
	way(t, n, beside, hole(1), 1)
	// Dropped.
	come(t, n, api.OK, api.Rule{ID: 3, Dev: 2, Dst: one, Out: api.Drop})
	way(t, n, near, step.End{Kind: step.Dropped, Dev: 2, Port: -1}, 0, 1, 2)
	way(t, n, there, hole(2), 0, 1, 2)
	// Let out.
	come(t, n, api.OK, api.Rule{ID: 4, Dev: 2, Dst: ten, Out: 2})
	way(t, n, there, step.End{Kind: step.Left, Dev: 2, Port: 2}, 0, 1, 2)
	way(t, n, there, step.End{Kind: step.Left, Dev: 2, Port: 2}, 2)
	way(t, n, near, step.End{Kind: step.Dropped, Dev: 2, Port: -1}, 1, 2)
	// Back by the port that it came in by: to a device that it was at, at the first one or in the middle.
	come(t, n, api.OK, api.Rule{ID: 5, Dev: 2, Dst: one, Prio: 1, Out: 0})
	way(t, n, near, step.End{Kind: step.Loop, Dev: 1, Port: -1}, 0, 1, 2)
	way(t, n, near, step.End{Kind: step.Loop, Dev: 1, Port: -1}, 1, 2)
	way(t, n, near, step.End{Kind: step.Loop, Dev: 2, Port: -1}, 2, 1)
	come(t, n, api.OK, api.Rule{ID: 6, Dev: 1, Dst: one, Prio: 1, Out: 0})
	way(t, n, near, step.End{Kind: step.Loop, Dev: 0, Port: -1}, 0, 1)
	way(t, n, near, step.End{Kind: step.Loop, Dev: 1, Port: -1}, 2, 1, 0)
}

// P13.2: what entries don't let out, or in at the other end, is denied at the device that it would go out of, by the port.
func TestDenied(t *testing.T) {
	ten := prefix(10, 0, 0, 0, 8)
	there, beside := api.Header{Dst: 10 << 24}, api.Header{Dst: 11 << 24}
	rules := []api.Rule{{ID: 1, Dev: 0, Out: 1}, {ID: 2, Dev: 1, Out: 1}, {ID: 3, Dev: 2, Out: 2}}
	left := step.End{Kind: step.Left, Dev: 2, Port: 2}
	for _, x := range []struct {
		entry api.ACE
		end   step.End
		devs  []int
	}{
		{api.ACE{Dev: 0, Port: 1}, step.End{Kind: step.Denied, Dev: 0, Port: 1}, []int{0}},
		{api.ACE{Dev: 1, Port: 0, In: true}, step.End{Kind: step.Denied, Dev: 0, Port: 1}, []int{0}},
		{api.ACE{Dev: 1, Port: 1}, step.End{Kind: step.Denied, Dev: 1, Port: 1}, []int{0, 1}},
		{api.ACE{Dev: 2, Port: 0, In: true}, step.End{Kind: step.Denied, Dev: 1, Port: 1}, []int{0, 1}},
		{api.ACE{Dev: 2, Port: 2}, step.End{Kind: step.Denied, Dev: 2, Port: 2}, []int{0, 1, 2}},
		// These are of other ways.
		{api.ACE{Dev: 0, Port: 1, In: true}, left, []int{0, 1, 2}},
		{api.ACE{Dev: 1, Port: 0}, left, []int{0, 1, 2}},
		{api.ACE{Dev: 2, Port: 2, In: true}, left, []int{0, 1, 2}},
		{api.ACE{Dev: 0, Port: 1, Permit: true}, left, []int{0, 1, 2}},
	} {
		top := line(3)
		x.entry.F = goes(ten)
		top.ACEs = []api.ACE{x.entry, {Dev: x.entry.Dev, Port: x.entry.Port, In: x.entry.In, Permit: true, F: filter.All()}}
		n := made(t, top, rules...)
		way(t, n, there, x.end, x.devs...)
		way(t, n, beside, left, 0, 1, 2)
	}
}

// P13.2: a link of a device with itself leads to a device that the header was at.
func TestLinkWithItself(t *testing.T) {
	top := api.Topo{Ports: []int{2, 3}, Links: []api.Link{{Dev: 1, Port: 0, Peer: 1, PeerPort: 2}, {Dev: 0, Port: 1, Peer: 1, PeerPort: 1}}}
	n := made(t, top, api.Rule{ID: 1, Dev: 1, Out: 2}, api.Rule{ID: 2, Dev: 0, Out: 1})
	way(t, n, api.Header{}, step.End{Kind: step.Loop, Dev: 1, Port: -1}, 1)
	way(t, n, api.Header{}, step.End{Kind: step.Loop, Dev: 1, Port: -1}, 0, 1)
	top.ACEs = []api.ACE{{Dev: 1, Port: 0, In: true, F: filter.All()}}
	n = made(t, top, api.Rule{ID: 1, Dev: 1, Out: 2})
	way(t, n, api.Header{}, step.End{Kind: step.Denied, Dev: 1, Port: 2}, 1)
}

// P13.2, P13.3: the longest ways, through all devices that there may be, there and back again, and round.
func TestLongest(t *testing.T) {
	n := made(t, line(16))
	var there, back []int
	for dev := range 16 {
		there, back = append(there, dev), append(back, 15-dev)
		come(t, n, api.OK, api.Rule{ID: dev, Dev: dev, Dst: prefix(0, 0, 0, 0, 1), Out: 1})
		come(t, n, api.OK, api.Rule{ID: 16 + dev, Dev: dev, Dst: prefix(128, 0, 0, 0, 1), Out: 0})
	}
	way(t, n, api.Header{}, step.End{Kind: step.Left, Dev: 15, Port: 1}, there...)
	way(t, n, api.Header{Dst: 1 << 31}, step.End{Kind: step.Left, Dev: 0, Port: 0}, back...)
	ring := line(16)
	ring.Links = append(ring.Links, api.Link{Dev: 15, Port: 1, Peer: 0, PeerPort: 0})
	n = made(t, ring)
	for dev := range 16 {
		come(t, n, api.OK, api.Rule{ID: dev, Dev: dev, Out: 1})
	}
	for dev := range 16 {
		way(t, n, api.Header{}, step.End{Kind: step.Loop, Dev: dev, Port: -1}, append(there[dev:16:16], there[:dev]...)...)
	}
}

// P13.1: rules come and go, whichever device has them, and are counted.
func TestChange(t *testing.T) {
	n := made(t, line(3))
	count := func(want int, ids ...int) {
		t.Helper()
		if n.Len() != want {
			t.Errorf("Len %d, want %d", n.Len(), want)
		}
		for _, id := range []int{0, 1, 5, 7, -3, math.MinInt, math.MaxInt} {
			if n.Has(id) != slices.Contains(ids, id) {
				t.Errorf("Has(%d) = %v", id, n.Has(id))
			}
		}
	}
	leave(t, n, api.ErrNone, 0)
	come(t, n, api.OK, api.Rule{ID: 0, Dev: 2, Out: 2})
	count(1, 0)
	come(t, n, api.OK, api.Rule{ID: 5, Dev: 0, Out: api.Drop})
	come(t, n, api.OK, api.Rule{ID: -3, Dev: 1, Prio: math.MinInt, Out: 0})
	come(t, n, api.OK, api.Rule{ID: math.MaxInt, Dev: 1, Prio: math.MaxInt, Out: 0})
	count(4, 0, 5, -3, math.MaxInt)
	leave(t, n, api.ErrNone, 1)
	leave(t, n, api.OK, 5)
	leave(t, n, api.ErrNone, 5)
	count(3, 0, -3, math.MaxInt)
	come(t, n, api.OK, api.Rule{ID: 5, Dev: 2, Prio: 1, Out: 1})
	count(4, 0, 5, -3, math.MaxInt)
	way(t, n, api.Header{}, step.End{Kind: step.Left, Dev: 2, Port: 1}, 2)
	leave(t, n, api.OK, 5)
	way(t, n, api.Header{}, step.End{Kind: step.Left, Dev: 2, Port: 2}, 2)
	for _, id := range []int{0, -3, math.MaxInt} {
		leave(t, n, api.OK, id)
	}
	count(0)
	way(t, n, api.Header{}, step.End{Kind: step.Hole, Dev: 2, Port: -1}, 2)
}

// P13.1: a rule stands in its device's table as it came.
func TestTables(t *testing.T) {
	r := api.Rule{ID: 7, Dev: 1, Dst: prefix(10, 0, 0, 0, 8), Prio: 3, Out: 2}
	n := made(t, line(3), r)
	for dev, x := range n.Tables {
		if got, ok := x.Get(7); ok != (dev == 1) || ok && got != r {
			t.Errorf("device %d: %v, %v", dev, got, ok)
		}
	}
}

// Errors: of a rule that comes the first that is wrong is told, and nothing has changed.
func TestChangeErrors(t *testing.T) {
	ten := prefix(10, 0, 0, 0, 8)
	n := made(t, api.Topo{Ports: []int{3, 0, 1}}, api.Rule{ID: 1, Dev: 0, Dst: ten, Out: 2})
	bad := api.Prefix{Addr: 1}
	for _, id := range []int{1, 2} {
		for _, p := range []api.Prefix{ten, bad} {
			for _, dev := range append([]int{-1, 3}, far...) {
				for _, out := range append([]int{api.Drop, 0, 3}, far...) {
					come(t, n, api.ErrDevice, api.Rule{ID: id, Dev: dev, Dst: p, Out: out})
				}
			}
			for _, out := range append([]int{3, 8}, far...) {
				come(t, n, api.ErrPort, api.Rule{ID: id, Dev: 0, Dst: p, Out: out})
			}
			come(t, n, api.ErrPort, api.Rule{ID: id, Dev: 1, Dst: p, Out: 0})
			come(t, n, api.ErrPort, api.Rule{ID: id, Dev: 2, Dst: p, Out: 1})
			for dev, out := range []int{2, api.Drop, 0} {
				if id == 1 {
					come(t, n, api.ErrThere, api.Rule{ID: id, Dev: dev, Dst: p, Out: out})
				} else if p == bad {
					come(t, n, api.ErrPrefix, api.Rule{ID: id, Dev: dev, Dst: p, Out: out})
				}
			}
		}
	}
	for _, id := range append([]int{0, 2, -1}, far...) {
		leave(t, n, api.ErrNone, id)
	}
	if r, ok := n.Tables[0].Get(1); n.Len() != 1 || !n.Has(1) || n.Has(2) || !ok || r.Out != 2 || r.Dst != ten {
		t.Errorf("Len %d, rule %v", n.Len(), r)
	}
	way(t, n, api.Header{Dst: 10 << 24}, step.End{Kind: step.Left, Dev: 0, Port: 2}, 0)
}

// Errors: there is no such device.
func TestNoDevice(t *testing.T) {
	n := made(t, line(3), api.Rule{ID: 1, Dev: 0, Out: 1})
	for _, dev := range append([]int{3, -1}, far...) {
		if w, end, e := n.Trace(dev, api.Header{}); len(w) != 0 || end != (step.End{}) || e != api.ErrDevice {
			t.Errorf("Trace(%d) = %v, %v, %d", dev, w, end, e)
		}
		if next, end, moved := n.Step(dev, api.Header{}); next != 0 || end != (step.End{}) || moved {
			t.Errorf("Step(%d) = %d, %v, %v", dev, next, end, moved)
		}
	}
}

// R1, R2: a nil net.
func TestNil(t *testing.T) {
	var n *step.Net
	for _, i := range append([]int{0, 1, -1}, far...) {
		if w, end, e := n.Trace(i, api.Header{}); len(w) != 0 || end != (step.End{}) || e != api.ErrNil {
			t.Errorf("Trace = %v, %v, %d", w, end, e)
		}
		if next, end, moved := n.Step(i, api.Header{}); next != 0 || end != (step.End{}) || moved {
			t.Errorf("Step = %d, %v, %v", next, end, moved)
		}
		come(t, n, api.ErrNil, api.Rule{ID: i, Dev: i, Out: i})
		leave(t, n, api.ErrNil, i)
		if n.Has(i) {
			t.Errorf("Has(%d)", i)
		}
	}
	if n.Len() != 0 || n.Clone() != nil {
		t.Errorf("Len %d, Clone %v", n.Len(), n.Clone())
	}
}

// P13.1: a clone is the same, and what is done to one of both isn't done to the other.
func TestClone(t *testing.T) {
	top := line(3)
	top.ACEs = []api.ACE{{Dev: 2, Port: 2, F: goes(prefix(11, 0, 0, 0, 8))}}
	n := made(t, top, api.Rule{ID: 1, Dev: 0, Out: 1}, api.Rule{ID: 2, Dev: 1, Out: 1}, api.Rule{ID: 3, Dev: 2, Out: 2})
	left := step.End{Kind: step.Left, Dev: 2, Port: 2}
	c := n.Clone()
	if c == n || c.Len() != 3 || !c.Has(1) || !c.Has(2) || !c.Has(3) || c.Has(0) {
		t.Fatalf("Len %d", c.Len())
	}
	for i := range n.Tables {
		if !slices.Equal(c.Tables[i].Rules(), n.Tables[i].Rules()) {
			t.Errorf("rules %v, want %v", c.Tables[i].Rules(), n.Tables[i].Rules())
		}
	}
	way(t, c, api.Header{}, left, 0, 1, 2)
	way(t, c, api.Header{Dst: 11 << 24}, step.End{Kind: step.Denied, Dev: 2, Port: 2}, 0, 1, 2)
	leave(t, c, api.OK, 2)
	come(t, c, api.OK, api.Rule{ID: 4, Dev: 0, Prio: 1, Out: api.Drop})
	leave(t, n, api.OK, 3)
	way(t, n, api.Header{}, step.End{Kind: step.Hole, Dev: 2, Port: -1}, 0, 1, 2)
	way(t, c, api.Header{}, step.End{Kind: step.Dropped, Dev: 0, Port: -1}, 0)
	way(t, c, api.Header{}, left, 2)
	if n.Len() != 2 || !n.Has(2) || n.Has(4) || c.Len() != 3 || c.Has(2) || !c.Has(3) || !c.Has(4) {
		t.Errorf("Len %d, of the clone %d", n.Len(), c.Len())
	}
	// The topology, too.
	c.Topo.Ports[0], c.Topo.Links[0], c.Topo.ACEs[0] = 0, api.Link{}, api.ACE{}
	way(t, n, api.Header{Dst: 11 << 24}, step.End{Kind: step.Hole, Dev: 2, Port: -1}, 0, 1, 2)
	if !slices.Equal(n.Topo.Ports, top.Ports) || !slices.Equal(n.Topo.Links, top.Links) || !slices.Equal(n.Topo.ACEs, top.ACEs) {
		t.Errorf("topology %v, want %v", n.Topo, top)
	}
}

// R3: a topology that is handed in isn't kept, and no two answers of Trace are one memory.
func TestHanded(t *testing.T) {
	top := line(2)
	top.ACEs = []api.ACE{{Dev: 1, Port: 2, F: goes(prefix(11, 0, 0, 0, 8))}}
	n := made(t, top, api.Rule{ID: 1, Dev: 0, Out: 1}, api.Rule{ID: 2, Dev: 1, Out: 2})
	top.Ports[1], top.Links[0], top.ACEs[0].F = 0, api.Link{Dev: 1, Port: 1, Peer: 1, PeerPort: 2}, filter.All()
	left := step.End{Kind: step.Left, Dev: 1, Port: 2}
	way(t, n, api.Header{}, left, 0, 1)
	way(t, n, api.Header{Dst: 11 << 24}, step.End{Kind: step.Denied, Dev: 1, Port: 2}, 0, 1)
	come(t, n, api.OK, api.Rule{ID: 3, Dev: 1, Out: 2})
	w, _, _ := n.Trace(0, api.Header{})
	w[0], w[1] = 9, 9
	way(t, n, api.Header{}, left, 0, 1)
	n = made(t, line(2))
	n.Topo.Ports[0] = 1
	if n.Topo.Ports[1] != 3 || line(2).Ports[0] != 3 {
		t.Error("memory is shared")
	}
}

// R1: nets that no call gave: nothing is promised of them, but that each call ends.
func TestWrongNets(t *testing.T) {
	wild := []api.Link{{Dev: 0, Port: 0, Peer: 9, PeerPort: 0}, {Dev: 1, Port: 0, Peer: -1, PeerPort: math.MinInt}, {Dev: 2, Port: 0, Peer: 1, PeerPort: 1}}
	filled := table.New()
	for i, out := range append([]int{0, 1, api.Drop}, far...) {
		filled.Add(api.Rule{ID: i, Dev: i, Dst: prefix(uint32(i), 0, 0, 0, 8), Out: out})
	}
	bad := goes(api.Prefix{Addr: 1, Bits: 77})
	for _, n := range []*step.Net{
		{}, {Topo: line(3)}, {Tables: []*table.Table{nil, filled}}, {Topo: line(3), Tables: []*table.Table{filled}},
		{Topo: line(2), Tables: []*table.Table{nil, nil, filled, filled}},
		{Topo: api.Topo{Ports: []int{1, -1, math.MaxInt}, Links: wild, ACEs: []api.ACE{{F: bad}, {Dev: 1, In: true, F: bad}}}, Tables: []*table.Table{filled, filled, filled}},
	} {
		for _, i := range append([]int{0, 1, 2, 3, -1}, far...) {
			for dst := range uint32(12) {
				n.Step(i, api.Header{Dst: dst << 24})
				n.Trace(i, api.Header{Dst: dst << 24})
			}
			n.Has(i)
			n.Clone().Change(api.Change{Del: true, Rule: api.Rule{ID: i}})
			n.Change(api.Change{Rule: api.Rule{ID: i + 1000, Dev: i, Out: i}})
			n.Change(api.Change{Rule: api.Rule{ID: i + 2000, Dev: i, Out: api.Drop}})
			n.Change(api.Change{Del: true, Rule: api.Rule{ID: i}})
		}
		n.Len()
	}
}
