package step_test

import (
	"math/rand/v2"
	"slices"
	"testing"

	"crossbuck/api"
	"crossbuck/cidr"
	"crossbuck/filter"
	"crossbuck/step"
)

// model is a net as the chapter says it: its topology, and a list of rules, of which each is asked.
type model struct {
	top   api.Topo
	rules []api.Rule
}

// has says whether a prefix has an address.
func has(p api.Prefix, a uint32) bool { return uint64(p.Addr)>>(32-p.Bits) == uint64(a)>>(32-p.Bits) }

// ahead says whether a rule is asked ahead of another one.
func ahead(a, b api.Rule) bool {
	if a.Prio != b.Prio {
		return a.Prio > b.Prio
	}
	if a.Dst.Bits != b.Dst.Bits {
		return a.Dst.Bits > b.Dst.Bits
	}
	return a.ID < b.ID
}

// lets says whether a header is let through: the last entry is looked at first, and each one ahead of it that asks for it overrules it.
func (m *model) lets(dev, port int, in bool, h api.Header) bool {
	ok := true
	for _, a := range slices.Backward(m.top.ACEs) {
		if a.Dev == dev && a.Port == port && a.In == in && filter.Match(a.F, h) {
			ok = a.Permit
		}
	}
	return ok
}

// over is the device at the other end of a port, and its port; below 0: none.
func (m *model) over(dev, port int) (int, int) {
	for _, l := range m.top.Links {
		if l.Dev == dev && l.Port == port {
			return l.Peer, l.PeerPort
		}
		if l.Peer == dev && l.PeerPort == port {
			return l.Dev, l.Port
		}
	}
	return -1, -1
}

// step is the device that a header comes to, below 0: none, and how its way ends there.
func (m *model) step(dev int, h api.Header) (int, step.End) {
	out, best := 99, api.Rule{}
	for _, r := range m.rules {
		if r.Dev == dev && has(r.Dst, h.Dst) && (out == 99 || ahead(r, best)) {
			out, best = r.Out, r
		}
	}
	switch out {
	case 99:
		return -1, step.End{Kind: step.Hole, Dev: dev, Port: -1}
	case api.Drop:
		return -1, step.End{Kind: step.Dropped, Dev: dev, Port: -1}
	}
	next, by := m.over(dev, out)
	if m.lets(dev, out, false, h) && next < 0 {
		return -1, step.End{Kind: step.Left, Dev: dev, Port: out}
	}
	if m.lets(dev, out, false, h) && m.lets(next, by, true, h) {
		return next, step.End{}
	}
	return -1, step.End{Kind: step.Denied, Dev: dev, Port: out}
}

// trace is a header's way; it is known to loop when it is longer than there are devices.
func (m *model) trace(dev int, h api.Header) ([]int, step.End) {
	var l []int
	for range len(m.top.Ports) + 1 {
		l = append(l, dev)
		next, end := m.step(dev, h)
		if next < 0 {
			return l, end
		}
		dev = next
	}
	for i := range l {
		if at := slices.Index(l[i+1:], l[i]); at >= 0 {
			return l[:i+1+at], step.End{Kind: step.Loop, Dev: l[i], Port: -1}
		}
	}
	panic("no device twice")
}

// few is a prefix of few bits.
func few(r *rand.Rand) api.Prefix { return cidr.Of(r.Uint32(), r.IntN(5)) }

// mix is a topology that may be: its links are ports taken two by two out of all, some left over.
func mix(r *rand.Rand) api.Topo {
	var t api.Topo
	var ports [][2]int
	for dev := range 1 + r.IntN(8) {
		t.Ports = append(t.Ports, r.IntN(5))
		for port := range t.Ports[dev] {
			ports = append(ports, [2]int{dev, port})
		}
	}
	r.Shuffle(len(ports), func(i, k int) { ports[i], ports[k] = ports[k], ports[i] })
	for i := 0; i+1 < len(ports) && r.IntN(8) > 0; i += 2 {
		a, b := ports[i], ports[i+1]
		t.Links = append(t.Links, api.Link{Dev: a[0], Port: a[1], Peer: b[0], PeerPort: b[1]})
	}
	for range r.IntN(12) {
		if len(ports) > 0 {
			p := ports[r.IntN(len(ports))]
			t.ACEs = append(t.ACEs, api.ACE{Dev: p[0], Port: p[1], In: r.IntN(2) == 0, Permit: r.IntN(2) == 0, F: goes(few(r))})
		}
	}
	return t
}

// change does one to the model, and says how it must end.
func (m *model) change(c api.Change) api.Errno {
	at := slices.IndexFunc(m.rules, func(r api.Rule) bool { return r.ID == c.Rule.ID })
	switch r := c.Rule; {
	case c.Del && at < 0:
		return api.ErrNone
	case c.Del:
		m.rules = slices.Delete(m.rules, at, at+1)
		return api.OK
	case r.Dev < 0 || r.Dev >= len(m.top.Ports):
		return api.ErrDevice
	case r.Out < -1 || r.Out >= m.top.Ports[r.Dev]:
		return api.ErrPort
	case at >= 0:
		return api.ErrThere
	case !cidr.Right(r.Dst):
		return api.ErrPrefix
	}
	m.rules = append(m.rules, c.Rule)
	return api.OK
}

// some is a change, wrong in one way or another now and then.
func some(r *rand.Rand, devs int) api.Change {
	x := api.Rule{ID: r.IntN(50), Dev: r.IntN(devs), Dst: few(r), Prio: r.IntN(3), Out: r.IntN(5) - 1}
	if r.IntN(20) == 0 {
		x.Dev = r.IntN(2)*(devs+1) - 1
	}
	if r.IntN(20) == 0 {
		x.Out = r.IntN(2)*9 - 2
	}
	if r.IntN(20) == 0 {
		x.Dst.Bits += 28 * (1 - 2*r.IntN(2))
	}
	return api.Change{Del: r.IntN(4) == 0, Rule: x}
}

// P13.1 to P13.3: whatever comes and goes, each header's way is the model's, step by step; all kinds of ends are met, and all errors.
func TestModel(t *testing.T) {
	kinds, told := map[int]int{}, map[api.Errno]int{}
	for seed := range uint64(150) {
		r := rand.New(rand.NewPCG(13, seed))
		m := model{top: mix(r)}
		n := made(t, m.top)
		for range 60 {
			c := some(r, len(m.top.Ports))
			want := m.change(c)
			if e := n.Change(c); e != want {
				t.Fatalf("Change(%v) = %d, want %d", c, e, want)
			}
			told[want]++
			if n.Len() != len(m.rules) {
				t.Fatalf("Len %d, want %d", n.Len(), len(m.rules))
			}
			id := r.IntN(50)
			if n.Has(id) != slices.ContainsFunc(m.rules, func(r api.Rule) bool { return r.ID == id }) {
				t.Fatalf("Has(%d) = %v", id, n.Has(id))
			}
			for dev := range m.top.Ports {
				h := api.Header{Dst: r.Uint32(), DPort: uint16(r.Uint32())}
				devs, end := m.trace(dev, h)
				if len(devs) > len(m.top.Ports) {
					t.Fatalf("%v is longer than there are devices", devs)
				}
				way(t, n, h, end, devs...)
				way(t, n.Clone(), h, end, devs...)
				kinds[end.Kind]++
			}
			if t.Failed() {
				t.Fatalf("seed %d: %v", seed, m)
			}
		}
	}
	for kind := range 5 {
		if kinds[kind] < 100 {
			t.Errorf("kind %d: %d ways", kind, kinds[kind])
		}
	}
	for _, e := range []api.Errno{api.OK, api.ErrNone, api.ErrDevice, api.ErrPort, api.ErrThere, api.ErrPrefix} {
		if told[e] < 50 {
			t.Errorf("error %d: %d times", e, told[e])
		}
	}
}
