package topo_test

import (
	"math"
	"math/rand/v2"
	"slices"
	"testing"

	"crossbuck/api"
	"crossbuck/cidr"
	"crossbuck/filter"
	"crossbuck/topo"
)

// far are numbers that are no device and no port anywhere.
var far = []int{-1, -2, -16, 128, 1 << 32, -1 << 32, math.MinInt, math.MaxInt}

// same are so many devices with so many ports each.
func same(devs, ports int) []int {
	l := make([]int, devs)
	for i := range l {
		l[i] = ports
	}
	return l
}

// entries are so many that let all in by port 0 of device 0.
func entries(n int) []api.ACE {
	l := make([]api.ACE, n)
	for i := range l {
		l[i] = api.ACE{In: true, Permit: true, F: filter.All()}
	}
	return l
}

// to is the filter that what goes to a prefix passes.
func to(a uint32, n int) api.Filter {
	f := filter.All()
	f.Dst = cidr.Of(a, n)
	return f
}

// wrongFilters are some that may not be, with what is wrong.
func wrongFilters() map[api.Filter]api.Errno {
	dst, src, proto, bounds := filter.All(), filter.All(), filter.All(), filter.All()
	dst.Dst.Bits = 33
	src.Src.Addr = 1
	proto.Proto = 256
	bounds.DPort = api.Range{Low: 2, High: 1}
	return map[api.Filter]api.Errno{dst: api.ErrPrefix, src: api.ErrPrefix, proto: api.ErrRange, bounds: api.ErrBounds}
}

// full has all that a topology may have, and all of its ports are joined: each one of an even device with that of the next.
func full() api.Topo {
	t := api.Topo{Ports: same(16, 8), ACEs: entries(32)}
	for dev := 0; dev < 16; dev += 2 {
		for port := range 8 {
			t.Links = append(t.Links, api.Link{Dev: dev, Port: port, Peer: dev + 1, PeerPort: 7 - port})
		}
	}
	return t
}

// small has three devices, with 2, 0 and 3 ports, and one link.
func small() api.Topo {
	return api.Topo{
		Ports: []int{2, 0, 3},
		Links: []api.Link{{Dev: 2, Port: 1, Peer: 0, PeerPort: 1}},
	}
}

// P5.1
func TestPort(t *testing.T) {
	x := small()
	for dev, count := range x.Ports {
		for port := range 10 {
			want := api.OK
			if port >= count {
				want = api.ErrPort
			}
			if e := topo.Port(x, dev, port); e != want {
				t.Errorf("Port(%d, %d) = %d, want %d", dev, port, e, want)
			}
		}
		for _, port := range far {
			if e := topo.Port(x, dev, port); e != api.ErrPort {
				t.Errorf("Port(%d, %d) = %d", dev, port, e)
			}
		}
	}
	for _, dev := range append([]int{3, 4, 16}, far...) {
		for _, port := range append([]int{0, 1, 9}, far...) {
			if e := topo.Port(x, dev, port); e != api.ErrDevice {
				t.Errorf("Port(%d, %d) = %d", dev, port, e)
			}
			if e := topo.Port(api.Topo{}, dev, port); e != api.ErrDevice {
				t.Errorf("Port(%d, %d) of no device = %d", dev, port, e)
			}
		}
	}
	if e := topo.Port(api.Topo{}, 0, 0); e != api.ErrDevice {
		t.Errorf("Port of no device = %d", e)
	}
}

// P5.1: Port asks for nothing but the number of that device's ports, be it what it may.
func TestPortOfWrongCounts(t *testing.T) {
	for _, x := range []struct {
		count, port int
		want        api.Errno
	}{
		{-1, -1, api.ErrPort}, {-1, 0, api.ErrPort}, {math.MinInt, math.MinInt, api.ErrPort}, {math.MinInt, 0, api.ErrPort},
		{9, 8, api.OK}, {9, 9, api.ErrPort}, {math.MaxInt, math.MaxInt - 1, api.OK}, {math.MaxInt, math.MaxInt, api.ErrPort},
	} {
		if e := topo.Port(api.Topo{Ports: []int{-1, x.count}}, 1, x.port); e != x.want {
			t.Errorf("Port %d of %d = %d, want %d", x.port, x.count, e, x.want)
		}
	}
}

// P5.1: the least and the greatest that there may be, and one beyond.
func TestCheckEdges(t *testing.T) {
	over := full()
	over.ACEs = entries(33)
	for _, x := range []struct {
		name string
		t    api.Topo
		want api.Errno
	}{
		{"no device", api.Topo{}, api.ErrMany},
		{"no device, an empty list", api.Topo{Ports: []int{}, Links: []api.Link{}, ACEs: []api.ACE{}}, api.ErrMany},
		{"one device", api.Topo{Ports: []int{0}}, api.OK},
		{"one device, empty lists", api.Topo{Ports: []int{0}, Links: []api.Link{}, ACEs: []api.ACE{}}, api.OK},
		{"16 devices", api.Topo{Ports: same(16, 0)}, api.OK},
		{"17 devices", api.Topo{Ports: same(17, 0)}, api.ErrMany},
		{"1000 devices", api.Topo{Ports: same(1000, 0)}, api.ErrMany},
		{"8 ports", api.Topo{Ports: []int{8}}, api.OK},
		{"9 ports", api.Topo{Ports: []int{9}}, api.ErrPort},
		{"-1 ports", api.Topo{Ports: []int{-1}}, api.ErrPort},
		{"9 ports at the last", api.Topo{Ports: []int{8, 0, 9}}, api.ErrPort},
		{"-1 ports at the last", api.Topo{Ports: []int{8, 0, -1}}, api.ErrPort},
		{"the least number of ports", api.Topo{Ports: []int{math.MinInt}}, api.ErrPort},
		{"the greatest number of ports", api.Topo{Ports: []int{math.MaxInt}}, api.ErrPort},
		{"32 entries", api.Topo{Ports: []int{1}, ACEs: entries(32)}, api.OK},
		{"33 entries", api.Topo{Ports: []int{1}, ACEs: entries(33)}, api.ErrMany},
		{"all of it", full(), api.OK},
		{"all of it, and an entry", over, api.ErrMany},
		{"three devices", small(), api.OK},
	} {
		if e := topo.Check(x.t); e != x.want {
			t.Errorf("%s: Check = %d, want %d", x.name, e, x.want)
		}
	}
}

// P5.1
func TestCheckLinks(t *testing.T) {
	ports := []int{2, 0, 3}
	for _, x := range []struct {
		name  string
		links []api.Link
		want  api.Errno
	}{
		{"two devices", []api.Link{{Dev: 0, Port: 1, Peer: 2, PeerPort: 2}}, api.OK},
		{"two ports of one device", []api.Link{{Dev: 2, Port: 0, Peer: 2, PeerPort: 2}}, api.OK},
		{"two links between two devices", []api.Link{{Dev: 0, Port: 0, Peer: 2, PeerPort: 0}, {Dev: 2, Port: 1, Peer: 0, PeerPort: 1}}, api.OK},
		{"one port at both ends", []api.Link{{Dev: 2, Port: 2, Peer: 2, PeerPort: 2}}, api.ErrLink},
		{"one link twice", []api.Link{{Dev: 0, Port: 0, Peer: 2, PeerPort: 0}, {Dev: 0, Port: 0, Peer: 2, PeerPort: 0}}, api.ErrLink},
		{"one link both ways", []api.Link{{Dev: 0, Port: 0, Peer: 2, PeerPort: 0}, {Dev: 2, Port: 0, Peer: 0, PeerPort: 0}}, api.ErrLink},
		{"a first end at a first one", []api.Link{{Dev: 0, Port: 0, Peer: 2, PeerPort: 0}, {Dev: 0, Port: 0, Peer: 2, PeerPort: 1}}, api.ErrLink},
		{"a first end at a second one", []api.Link{{Dev: 0, Port: 0, Peer: 2, PeerPort: 0}, {Dev: 2, Port: 0, Peer: 2, PeerPort: 1}}, api.ErrLink},
		{"a second end at a first one", []api.Link{{Dev: 0, Port: 0, Peer: 2, PeerPort: 0}, {Dev: 2, Port: 1, Peer: 0, PeerPort: 0}}, api.ErrLink},
		{"a second end at a second one", []api.Link{{Dev: 0, Port: 0, Peer: 2, PeerPort: 0}, {Dev: 0, Port: 1, Peer: 2, PeerPort: 0}}, api.ErrLink},
		{"a device behind the last", []api.Link{{Dev: 3, Port: 0, Peer: 0, PeerPort: 0}}, api.ErrDevice},
		{"a peer behind the last", []api.Link{{Dev: 0, Port: 0, Peer: 3, PeerPort: 0}}, api.ErrDevice},
		{"a port behind the last", []api.Link{{Dev: 0, Port: 2, Peer: 2, PeerPort: 0}}, api.ErrPort},
		{"a peer's port behind the last", []api.Link{{Dev: 0, Port: 0, Peer: 2, PeerPort: 3}}, api.ErrPort},
		{"a port of a device without any", []api.Link{{Dev: 1, Port: 0, Peer: 2, PeerPort: 0}}, api.ErrPort},
		{"an edge as it is told", []api.Link{{Dev: 0, Port: 0, Peer: -1, PeerPort: -1}}, api.ErrDevice},
	} {
		if e := topo.Check(api.Topo{Ports: ports, Links: x.links}); e != x.want {
			t.Errorf("%s: Check = %d, want %d", x.name, e, x.want)
		}
	}
	for _, n := range far {
		for _, x := range []struct {
			l    api.Link
			want api.Errno
		}{
			{api.Link{Dev: n, Port: 0, Peer: 2, PeerPort: 0}, api.ErrDevice},
			{api.Link{Dev: 0, Port: n, Peer: 2, PeerPort: 0}, api.ErrPort},
			{api.Link{Dev: 0, Port: 0, Peer: n, PeerPort: 0}, api.ErrDevice},
			{api.Link{Dev: 0, Port: 0, Peer: 2, PeerPort: n}, api.ErrPort},
			{api.Link{Dev: n, Port: n, Peer: n, PeerPort: n}, api.ErrDevice},
		} {
			if e := topo.Check(api.Topo{Ports: ports, Links: []api.Link{x.l}}); e != x.want {
				t.Errorf("Check of %v = %d, want %d", x.l, e, x.want)
			}
		}
	}
}

// P5.1
func TestCheckEntries(t *testing.T) {
	ports := []int{2, 0, 3}
	right := api.ACE{Dev: 2, Port: 2, F: filter.All()}
	ask := func(name string, want api.Errno, l ...api.ACE) {
		t.Helper()
		if e := topo.Check(api.Topo{Ports: ports, ACEs: l}); e != want {
			t.Errorf("%s: Check = %d, want %d", name, e, want)
		}
	}
	ask("one", api.OK, right)
	ask("the same one twice", api.OK, right, right)
	ask("a device behind the last", api.ErrDevice, right, api.ACE{Dev: 3, F: filter.All()})
	ask("a port behind the last", api.ErrPort, right, api.ACE{Port: 2, F: filter.All()})
	ask("a device without ports", api.ErrPort, right, api.ACE{Dev: 1, F: filter.All()})
	for _, n := range far {
		ask("a device", api.ErrDevice, api.ACE{Dev: n, F: filter.All()})
		ask("a port", api.ErrPort, api.ACE{Port: n, F: filter.All()})
		ask("both", api.ErrDevice, api.ACE{Dev: n, Port: n, F: filter.All()})
	}
	for f, want := range wrongFilters() {
		ask("a filter", want, api.ACE{F: f})
		ask("a filter of one that lets in", want, right, api.ACE{In: true, Permit: true, F: f})
		ask("a filter, no device", api.ErrDevice, api.ACE{Dev: -1, F: f})
		ask("a filter, no port", api.ErrPort, api.ACE{Port: 2, F: f})
		ask("a filter, then no device", want, api.ACE{F: f}, api.ACE{Dev: -1, F: f})
		ask("no port, then a filter", api.ErrPort, api.ACE{Port: 2, F: filter.All()}, api.ACE{F: f})
		for g, other := range wrongFilters() {
			ask("two filters", want, api.ACE{F: f}, api.ACE{F: g})
			ask("two filters", other, api.ACE{F: g}, api.ACE{F: f})
		}
	}
}

// P5.1: of several wrong things the first that the chapter names is told.
func TestCheckFirst(t *testing.T) {
	noDevice := api.Link{Dev: -1, Peer: 1}
	noPort := api.Link{Port: 1, Peer: 1}
	lateDevice := api.Link{Peer: 2}
	latePort := api.Link{Peer: 1, PeerPort: 1}
	loop := api.Link{}
	right := api.Link{Peer: 1}
	badEntry := []api.ACE{{Dev: -1}}
	badPort := []api.ACE{{Port: -1}}
	two := []int{1, 1}
	for _, x := range []struct {
		name string
		t    api.Topo
		want api.Errno
	}{
		{"17 devices, ports", api.Topo{Ports: same(17, 9)}, api.ErrMany},
		{"17 devices, links, entries", api.Topo{Ports: same(17, 1), Links: []api.Link{loop}, ACEs: badEntry}, api.ErrMany},
		{"no device, links, entries", api.Topo{Links: []api.Link{loop}, ACEs: badEntry}, api.ErrMany},
		{"33 entries, ports", api.Topo{Ports: []int{9}, ACEs: entries(33)}, api.ErrMany},
		{"33 entries, links", api.Topo{Ports: two, Links: []api.Link{noDevice}, ACEs: entries(33)}, api.ErrMany},
		{"33 entries that may not be", api.Topo{Ports: two, ACEs: make([]api.ACE, 33)}, api.ErrMany},
		{"ports, links", api.Topo{Ports: []int{1, 9}, Links: []api.Link{noDevice}}, api.ErrPort},
		{"ports, a loop", api.Topo{Ports: []int{1, -1}, Links: []api.Link{loop}}, api.ErrPort},
		{"ports, entries", api.Topo{Ports: []int{1, 9}, ACEs: badEntry}, api.ErrPort},
		{"a link's port, an entry's device", api.Topo{Ports: two, Links: []api.Link{noPort}, ACEs: badEntry}, api.ErrPort},
		{"a link's device, an entry's port", api.Topo{Ports: two, Links: []api.Link{lateDevice}, ACEs: badPort}, api.ErrDevice},
		{"a loop, an entry's device", api.Topo{Ports: two, Links: []api.Link{loop}, ACEs: badEntry}, api.ErrLink},
		{"a link's port, the next one's device", api.Topo{Ports: two, Links: []api.Link{latePort, noDevice}}, api.ErrPort},
		{"a link's device, the next one's port", api.Topo{Ports: two, Links: []api.Link{lateDevice, noPort}}, api.ErrDevice},
		{"a loop, the next one's device", api.Topo{Ports: two, Links: []api.Link{loop, noDevice}}, api.ErrLink},
		{"a link's device, then a loop", api.Topo{Ports: two, Links: []api.Link{noDevice, loop}}, api.ErrDevice},
		{"an end again, no other device", api.Topo{Ports: two, Links: []api.Link{right, lateDevice}}, api.ErrLink},
		{"an end again, no other port", api.Topo{Ports: two, Links: []api.Link{right, latePort}}, api.ErrLink},
		{"no device, the other end again", api.Topo{Ports: two, Links: []api.Link{right, noDevice}}, api.ErrDevice},
		{"no port, the other end again", api.Topo{Ports: two, Links: []api.Link{right, noPort}}, api.ErrPort},
		{"no port, no other device", api.Topo{Ports: two, Links: []api.Link{{Port: -1, Peer: -1}}}, api.ErrPort},
		{"no device, no other port", api.Topo{Ports: two, Links: []api.Link{{Dev: 2, PeerPort: 1}}}, api.ErrDevice},
		{"one end twice that there is not", api.Topo{Ports: two, Links: []api.Link{{Port: 1, PeerPort: 1}}}, api.ErrPort},
		{"right links, an entry's device", api.Topo{Ports: two, Links: []api.Link{right}, ACEs: badEntry}, api.ErrDevice},
		{"an entry's device, the next one's port", api.Topo{Ports: two, ACEs: []api.ACE{badEntry[0], badPort[0]}}, api.ErrDevice},
		{"an entry's port, the next one's device", api.Topo{Ports: two, ACEs: []api.ACE{badPort[0], badEntry[0]}}, api.ErrPort},
	} {
		if e := topo.Check(x.t); e != x.want {
			t.Errorf("%s: Check = %d, want %d", x.name, e, x.want)
		}
	}
}

// askPeer holds one answer of Peer against another one.
func askPeer(t *testing.T, x api.Topo, dev, port, wantDev, wantPort int, want bool) {
	t.Helper()
	if d, p, ok := topo.Peer(x, dev, port); d != wantDev || p != wantPort || ok != want {
		t.Errorf("Peer(%d, %d) = %d, %d, %v, want %d, %d, %v", dev, port, d, p, ok, wantDev, wantPort, want)
	}
}

// P5.2
func TestPeer(t *testing.T) {
	x := api.Topo{Ports: []int{1, 1}, Links: []api.Link{{Dev: 0, Port: 0, Peer: 1, PeerPort: 0}}}
	askPeer(t, x, 0, 0, 1, 0, true)
	askPeer(t, x, 1, 0, 0, 0, true)
	x = small()
	askPeer(t, x, 0, 1, 2, 1, true)
	askPeer(t, x, 2, 1, 0, 1, true)
	askPeer(t, x, 0, 0, 0, 0, false)
	askPeer(t, x, 2, 0, 0, 0, false)
	askPeer(t, x, 2, 2, 0, 0, false)
	x.Links = nil
	askPeer(t, x, 0, 1, 0, 0, false)
	x.Links = []api.Link{{Dev: 2, Port: 2, Peer: 2, PeerPort: 0}, {Dev: 0, Port: 0, Peer: 0, PeerPort: 1}}
	askPeer(t, x, 2, 0, 2, 2, true)
	askPeer(t, x, 2, 2, 2, 0, true)
	askPeer(t, x, 2, 1, 0, 0, false)
	askPeer(t, x, 0, 0, 0, 1, true)
	askPeer(t, x, 0, 1, 0, 0, true)
	x = full()
	for dev := range 16 {
		for port := range 8 {
			askPeer(t, x, dev, port, dev^1, 7-port, true)
		}
	}
}

// askPermit holds one answer of Permit against another one.
func askPermit(t *testing.T, x api.Topo, dev, port int, in bool, h api.Header, want bool) {
	t.Helper()
	if got := topo.Permit(x, dev, port, in, h); got != want {
		t.Errorf("Permit(%d, %d, %v, %v) = %v", dev, port, in, h, got)
	}
}

// P5.2
func TestPermit(t *testing.T) {
	ten := api.Header{Dst: 10<<24 | 1<<16 | 5, DPort: 80}
	other := api.Header{Dst: 10<<24 | 2<<16}
	none := api.Header{Dst: 11 << 24}
	x := small()
	for _, in := range []bool{false, true} {
		askPermit(t, x, 0, 0, in, ten, true)
	}
	x.ACEs = []api.ACE{
		{Dev: 2, Port: 1, In: true, Permit: true, F: to(10<<24|1<<16, 16)},
		{Dev: 2, Port: 1, In: true, Permit: false, F: to(10<<24, 8)},
		{Dev: 2, Port: 1, In: true, Permit: true, F: filter.All()},
		{Dev: 0, Port: 1, In: false, Permit: false, F: filter.All()},
		{Dev: 0, Port: 1, In: false, Permit: true, F: filter.All()},
	}
	askPermit(t, x, 2, 1, true, ten, true)
	askPermit(t, x, 2, 1, true, other, false)
	askPermit(t, x, 2, 1, true, none, true)
	for _, h := range []api.Header{ten, other, none} {
		askPermit(t, x, 2, 1, false, h, true)
		askPermit(t, x, 2, 0, true, h, true)
		askPermit(t, x, 2, 2, true, h, true)
		askPermit(t, x, 0, 1, false, h, false)
		askPermit(t, x, 0, 1, true, h, true)
		askPermit(t, x, 0, 0, false, h, true)
	}
	x.ACEs = []api.ACE{{Dev: 0, Port: 0, In: true, F: to(10<<24, 8)}}
	askPermit(t, x, 0, 0, true, ten, false)
	askPermit(t, x, 0, 0, true, none, true)
	askPermit(t, x, 0, 0, false, ten, true)
}

// P5.2: each of a filter's fields counts.
func TestPermitFields(t *testing.T) {
	f := api.Filter{Dst: cidr.Of(10<<24, 8), Src: cidr.Of(11<<24, 8), Proto: 6, SPort: api.Range{Low: 1, High: 2}, DPort: api.Range{Low: 80, High: 90}}
	x := api.Topo{Ports: []int{1}, ACEs: []api.ACE{{F: f}}}
	h := api.Header{Dst: 10 << 24, Src: 11 << 24, Proto: 6, SPort: 2, DPort: 90}
	askPermit(t, x, 0, 0, false, h, false)
	for _, change := range []func(h *api.Header){
		func(h *api.Header) { h.Dst = 12 << 24 },
		func(h *api.Header) { h.Src = 12 << 24 },
		func(h *api.Header) { h.Proto = 7 },
		func(h *api.Header) { h.SPort = 3 },
		func(h *api.Header) { h.DPort = 91 },
	} {
		g := h
		change(&g)
		askPermit(t, x, 0, 0, false, g, true)
	}
}

// askCross holds one answer of Cross against another one.
func askCross(t *testing.T, x api.Topo, dev, port int, h api.Header, next int, out, moved bool) {
	t.Helper()
	if n, o, m := topo.Cross(x, dev, port, h); n != next || o != out || m != moved {
		t.Errorf("Cross(%d, %d, %v) = %d, %v, %v, want %d, %v, %v", dev, port, h, n, o, m, next, out, moved)
	}
}

// P5.2
func TestCross(t *testing.T) {
	ten, other := api.Header{Dst: 10 << 24}, api.Header{Dst: 11 << 24}
	x := small()
	askCross(t, x, 0, 1, ten, 2, false, true)
	askCross(t, x, 2, 1, ten, 0, false, true)
	askCross(t, x, 0, 0, ten, 0, true, false)
	askCross(t, x, 2, 2, ten, 0, true, false)
	for _, where := range []api.ACE{{Dev: 0, Port: 1}, {Dev: 2, Port: 1, In: true}} {
		where.F = to(10<<24, 8)
		x.ACEs = []api.ACE{where}
		askCross(t, x, 0, 1, ten, 0, false, false)
		askCross(t, x, 0, 1, other, 2, false, true)
		askCross(t, x, 2, 1, ten, 0, false, true)
		x.ACEs = []api.ACE{where, {Dev: 2, Port: 1, F: filter.All()}}
		askCross(t, x, 2, 1, ten, 0, false, false)
	}
	// What is asked on the way in at its own port, or on the way out at the other end, is not asked.
	x.ACEs = []api.ACE{{Dev: 0, Port: 1, In: true, F: filter.All()}, {Dev: 2, Port: 1, F: filter.All()}}
	askCross(t, x, 0, 1, ten, 2, false, true)
	// Out of the net.
	x.ACEs = []api.ACE{{Dev: 2, Port: 2, F: to(10<<24, 8)}, {Dev: 2, Port: 2, In: true, F: filter.All()}}
	askCross(t, x, 2, 2, ten, 0, false, false)
	askCross(t, x, 2, 2, other, 0, true, false)
	// Back to the device itself.
	x.Links = append(x.Links, api.Link{Dev: 2, Port: 0, Peer: 2, PeerPort: 2})
	askCross(t, x, 2, 0, ten, 0, false, false)
	x.ACEs = nil
	askCross(t, x, 2, 0, ten, 2, false, true)
	askCross(t, x, 2, 2, ten, 2, false, true)
}

// P5.2
func TestEdges(t *testing.T) {
	edge := func(dev, port int) api.Link { return api.Link{Dev: dev, Port: port, Peer: -1, PeerPort: -1} }
	unjoined, last := full(), full()
	unjoined.Links = nil
	var all []api.Link
	for dev := range 16 {
		for port := range 8 {
			all = append(all, edge(dev, port))
		}
	}
	last.Links = last.Links[:len(last.Links)-1]
	itself := api.Topo{Ports: []int{3}, Links: []api.Link{{Port: 2, PeerPort: 0}}}
	for _, x := range []struct {
		name string
		t    api.Topo
		want []api.Link
	}{
		{"a device without ports", api.Topo{Ports: []int{0}}, nil},
		{"one port", api.Topo{Ports: []int{1}}, []api.Link{edge(0, 0)}},
		{"three devices", small(), []api.Link{edge(0, 0), edge(2, 0), edge(2, 2)}},
		{"two ports of one device", itself, []api.Link{edge(0, 1)}},
		{"all ports", unjoined, all},
		{"no port", full(), nil},
		{"two ports at the end", last, []api.Link{edge(14, 7), edge(15, 0)}},
	} {
		if got := topo.Edges(x.t); !slices.Equal(got, x.want) {
			t.Errorf("%s: Edges = %v, want %v", x.name, got, x.want)
		}
	}
}

// mix is a topology that may be, by a source of numbers: its links are ports taken two by two out of all, some left over.
func mix(r *rand.Rand) api.Topo {
	var t api.Topo
	var ports [][2]int
	for dev := range 1 + r.IntN(16) {
		t.Ports = append(t.Ports, r.IntN(9))
		for port := range t.Ports[dev] {
			ports = append(ports, [2]int{dev, port})
		}
	}
	r.Shuffle(len(ports), func(i, k int) { ports[i], ports[k] = ports[k], ports[i] })
	for i := 0; i+1 < len(ports) && r.IntN(8) > 0; i += 2 {
		a, b := ports[i], ports[i+1]
		t.Links = append(t.Links, api.Link{Dev: a[0], Port: a[1], Peer: b[0], PeerPort: b[1]})
	}
	for range r.IntN(33) {
		if len(ports) > 0 {
			p := ports[r.IntN(min(len(ports), 6))]
			f := to(uint32(r.IntN(4))<<30, r.IntN(3))
			t.ACEs = append(t.ACEs, api.ACE{Dev: p[0], Port: p[1], In: r.IntN(2) == 0, Permit: r.IntN(2) == 0, F: f})
		}
	}
	return t
}

// wires is what each port is joined with, by lists of all ports.
func wires(x api.Topo) [16][8][][2]int {
	var out [16][8][][2]int
	for _, l := range x.Links {
		out[l.Dev][l.Port] = append(out[l.Dev][l.Port], [2]int{l.Peer, l.PeerPort})
		out[l.Peer][l.PeerPort] = append(out[l.Peer][l.PeerPort], [2]int{l.Dev, l.Port})
	}
	return out
}

// lets is what Permit should say: the last entry is looked at first, and each one ahead of it that asks for the header overrules it.
func lets(x api.Topo, dev, port int, in bool, h api.Header) bool {
	ok := true
	for _, a := range slices.Backward(x.ACEs) {
		if a.Dev == dev && a.Port == port && a.In == in && filter.Match(a.F, h) {
			ok = a.Permit
		}
	}
	return ok
}

// P5.1, P5.2: topologies of all sizes, port by port.
func TestMixed(t *testing.T) {
	r := rand.New(rand.NewPCG(9, 10))
	for range 300 {
		x := mix(r)
		if e := topo.Check(x); e != api.OK {
			t.Fatalf("Check(%v) = %d", x, e)
		}
		wired := wires(x)
		var edges []api.Link
		for dev, count := range x.Ports {
			for port := range count {
				w := wired[dev][port]
				if len(w) == 0 {
					edges = append(edges, api.Link{Dev: dev, Port: port, Peer: -1, PeerPort: -1})
					askPeer(t, x, dev, port, 0, 0, false)
				} else {
					askPeer(t, x, dev, port, w[0][0], w[0][1], true)
				}
				for i := range 4 {
					h := api.Header{Dst: uint32(i)<<30 | r.Uint32()>>2}
					askMixed(t, x, dev, port, w, h)
				}
			}
		}
		if got := topo.Edges(x); !slices.Equal(got, edges) {
			t.Fatalf("Edges(%v) = %v, want %v", x, got, edges)
		}
	}
}

// askMixed holds Permit and Cross of a header against what they should say.
func askMixed(t *testing.T, x api.Topo, dev, port int, wire [][2]int, h api.Header) {
	t.Helper()
	askPermit(t, x, dev, port, true, h, lets(x, dev, port, true, h))
	out := lets(x, dev, port, false, h)
	askPermit(t, x, dev, port, false, h, out)
	switch {
	case len(wire) == 0:
		askCross(t, x, dev, port, h, 0, out, false)
	case out && lets(x, wire[0][0], wire[0][1], true, h):
		askCross(t, x, dev, port, h, wire[0][0], false, true)
	default:
		askCross(t, x, dev, port, h, 0, false, false)
	}
}

// first is what Check should say of a topology whose counts may be, but whose links and entries need not: all ends are numbered, and of each one all ahead of it are looked at.
func first(x api.Topo) api.Errno {
	var ends [][2]int
	for _, l := range x.Links {
		ends = append(ends, [2]int{l.Dev, l.Port}, [2]int{l.Peer, l.PeerPort})
	}
	for i, p := range ends {
		if e := topo.Port(x, p[0], p[1]); e != api.OK {
			return e
		}
		if slices.Contains(ends[:i], p) {
			return api.ErrLink
		}
	}
	for _, a := range x.ACEs {
		if e := topo.Port(x, a.Dev, a.Port); e != api.OK {
			return e
		}
		if e := filter.Check(a.F); e != api.OK {
			return e
		}
	}
	return api.OK
}

// P5.1: topologies in which some numbers are spoilt.
func TestSpoilt(t *testing.T) {
	r := rand.New(rand.NewPCG(11, 12))
	told := map[api.Errno]int{}
	for range 3000 {
		x := mix(r)
		for i := range x.Links {
			l := &x.Links[i]
			for _, n := range []*int{&l.Dev, &l.Port, &l.Peer, &l.PeerPort} {
				if r.IntN(60) == 0 {
					*n = r.IntN(11) - 1
				}
			}
		}
		for i := range x.ACEs {
			a := &x.ACEs[i]
			for _, n := range []*int{&a.Dev, &a.Port, &a.F.Proto, &a.F.Dst.Bits} {
				if r.IntN(40) == 0 {
					*n = r.IntN(300) - 3
				}
			}
			if r.IntN(20) == 0 {
				a.F.SPort = api.Range{Low: 1}
			}
		}
		e, want := topo.Check(x), first(x)
		if e != want {
			t.Fatalf("Check(%v) = %d, want %d", x, e, want)
		}
		told[e]++
	}
	for _, e := range []api.Errno{api.OK, api.ErrDevice, api.ErrPort, api.ErrLink, api.ErrPrefix, api.ErrRange, api.ErrBounds} {
		if told[e] == 0 {
			t.Errorf("none of the topologies told %d", e)
		}
	}
}

// R1: of topologies that may not be, and of ports that there are not, the calls end.
func TestWrongTopologies(t *testing.T) {
	wild := []int{0, 1, 8, 9, 16, -1, math.MinInt, math.MaxInt}
	topos := []api.Topo{{}, small(), full()}
	for _, n := range wild {
		topos = append(topos, api.Topo{
			Ports: []int{n, 1, n},
			Links: []api.Link{{Dev: n, Port: n, Peer: n, PeerPort: n}, {Dev: 0, Port: n, Peer: n, PeerPort: 0}},
			ACEs:  []api.ACE{{Dev: n, Port: n, F: api.Filter{Dst: api.Prefix{Bits: n}, Proto: n, DPort: api.Range{Low: 1}}}},
		}, api.Topo{Ports: []int{n}}, api.Topo{Ports: same(1000, n)})
	}
	for _, x := range topos {
		topo.Check(x)
		topo.Edges(x)
		for _, dev := range wild {
			for _, port := range wild {
				topo.Port(x, dev, port)
				topo.Peer(x, dev, port)
				topo.Permit(x, dev, port, true, api.Header{})
				topo.Cross(x, dev, port, api.Header{})
			}
		}
	}
}

// R1: a port that there is not has no link, be it below 0 or behind the last.
func TestPeerOfNoPort(t *testing.T) {
	for _, x := range []api.Topo{{}, small(), full()} {
		for _, n := range far {
			askPeer(t, x, n, 0, 0, 0, false)
			askPeer(t, x, 0, n, 0, 0, false)
			askPeer(t, x, n, n, 0, 0, false)
		}
	}
}

// R3: what is handed in stays as it is, with the room behind its end, and what is handed out is new.
func TestHandedIn(t *testing.T) {
	roomy := func() api.Topo {
		x := full()
		x.Links = x.Links[:20]
		x.Ports, x.ACEs = x.Ports[:15], x.ACEs[:10]
		x.ACEs[3].Permit = false
		return x
	}
	x, want := roomy(), roomy()
	topo.Port(x, 0, 0)
	topo.Check(x)
	topo.Peer(x, 0, 0)
	topo.Permit(x, 0, 0, true, api.Header{})
	topo.Cross(x, 1, 7, api.Header{})
	edges := topo.Edges(x)
	again := topo.Edges(x)
	for i := range edges {
		edges[i] = api.Link{}
	}
	if slices.Equal(edges, again) || !slices.Equal(again, topo.Edges(x)) {
		t.Error("two answers of Edges share memory")
	}
	if !slices.Equal(x.Ports[:16], want.Ports[:16]) || !slices.Equal(x.Links[:64], want.Links[:64]) || !slices.Equal(x.ACEs[:32], want.ACEs[:32]) {
		t.Error("a topology was changed")
	}
}
