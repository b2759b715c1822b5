package port_test

import (
	"math"
	"slices"
	"testing"

	"crossbuck/api"
	"crossbuck/bdd"
	"crossbuck/enc"
	"crossbuck/filter"
	"crossbuck/hdr"
	"crossbuck/port"
	"crossbuck/table"
)

// far are numbers that are no device, no port and no set anywhere.
var far = []int{-1, -2, api.MaxNodes, 1 << 32, -1 << 32, math.MinInt, math.MaxInt}

// prefix is the one of four numbers, and so many bits.
func prefix(a, b, c, d uint32, n int) api.Prefix {
	return api.Prefix{Addr: a<<24 | b<<16 | c<<8 | d, Bits: n}
}

// arena has room for so many nodes.
func arena(t *testing.T, most int) *bdd.Arena {
	t.Helper()
	a, e := bdd.New(most)
	if e != api.OK {
		t.Fatalf("New(%d) = %d", most, e)
	}
	return a
}

// rules are a table of these, each of which must be new.
func rules(t *testing.T, l ...api.Rule) *table.Table {
	t.Helper()
	x := table.New()
	for _, r := range l {
		if e := x.Add(r); e != api.OK {
			t.Fatalf("Add(%v) = %d", r, e)
		}
	}
	return x
}

// set is what must be made.
func set(t *testing.T) func(f int, e api.Errno) int {
	return func(f int, e api.Errno) int {
		t.Helper()
		if e != api.OK {
			t.Fatalf("error %d", e)
		}
		return f
	}
}

// to is the set of what goes to a prefix.
func to(t *testing.T, a *bdd.Arena, p api.Prefix) int {
	t.Helper()
	return set(t)(enc.Prefix(a, hdr.Dst, p))
}

// of is Of, which must be.
func of(t *testing.T, a *bdd.Arena, x *table.Table, ports, region int) port.Sets {
	t.Helper()
	s, e := port.Of(a, x, ports, region)
	if e != api.OK || len(s.Out) != ports {
		t.Fatalf("Of(%d, %d) = %v, %d", ports, region, s, e)
	}
	return s
}

// isZero says whether there are no sets.
func isZero(s port.Sets) bool { return len(s.Out) == 0 && s.Drop == 0 && s.Hole == 0 }

// same says that sets must be those.
func same(t *testing.T, what string, got, want port.Sets) {
	t.Helper()
	if !slices.Equal(got.Out, want.Out) || got.Drop != want.Drop || got.Hole != want.Hole {
		t.Errorf("%s: %v, want %v", what, got, want)
	}
}

// refused says that Of must answer an error, and nothing else, and that no node is new.
func refused(t *testing.T, want api.Errno, a *bdd.Arena, x *table.Table, ports, region int) {
	t.Helper()
	was := a.Len()
	if s, e := port.Of(a, x, ports, region); e != want || !isZero(s) {
		t.Errorf("Of(%d, %d) = %v, %d, want %d", ports, region, s, e, want)
	}
	if a.Len() != was {
		t.Errorf("Of(%d, %d): %d nodes, %d ahead", ports, region, a.Len(), was)
	}
}

// regions are some sets of an arena: none, all, parts of Dst, and what asks for other bits, too.
func regions(t *testing.T, a *bdd.Arena) []int {
	t.Helper()
	web := set(t)(enc.Filter(a, api.Filter{Dst: prefix(10, 0, 0, 0, 7), Src: prefix(1, 2, 0, 0, 16), Proto: 6, SPort: api.Range{High: 1023}, DPort: api.Range{Low: 80, High: 90}}))
	one := set(t)(enc.Header(a, api.Header{Dst: 10<<24 | 1<<16, DPort: 80}))
	odd := set(t)(a.Var(hdr.Dst + 31))
	both := set(t)(a.Join(bdd.Xor, odd, set(t)(a.Var(hdr.DPort))))
	return []int{bdd.True, bdd.False, to(t, a, prefix(128, 0, 0, 0, 1)), to(t, a, prefix(0, 0, 0, 0, 3)), web, one, odd, both, set(t)(a.Not(web))}
}

// P12.1: the chapter's example; a new table, a nil one and one that became empty are one.
func TestNoRule(t *testing.T) {
	emptied := rules(t, api.Rule{ID: 1, Out: 0})
	emptied.Drop(1)
	a := arena(t, 1000)
	for _, region := range regions(t, a) {
		for _, x := range []*table.Table{nil, table.New(), {}, emptied} {
			for ports := range api.MaxPorts + 1 {
				was := a.Len()
				same(t, "no rule", of(t, a, x, ports, region), port.Sets{Out: make([]int, ports), Hole: region})
				if a.Len() != was {
					t.Errorf("%d nodes, %d ahead", a.Len(), was)
				}
			}
		}
	}
}

// R8: without rules no room is needed beside False and True.
func TestNoRuleNoRoom(t *testing.T) {
	a := arena(t, 2)
	same(t, "all", of(t, a, nil, 8, bdd.True), port.Sets{Out: make([]int, 8), Hole: bdd.True})
	s := of(t, a, table.New(), 8, bdd.True)
	if f, e := port.Delta(a, s, s); f != bdd.False || e != api.OK {
		t.Errorf("Delta = %d, %d", f, e)
	}
	if f, e := port.Permit(a, api.Topo{Ports: []int{1}}, 0, 0, true); f != bdd.True || e != api.OK {
		t.Errorf("Permit = %d, %d", f, e)
	}
}

// R8: rules that no header is left for need no room, either.
func TestNothingLeftNoRoom(t *testing.T) {
	a := arena(t, 2)
	l := []api.Rule{{ID: 1, Prio: 1, Out: 3}, {ID: 2, Dst: prefix(10, 0, 0, 0, 8), Out: api.Drop}, {ID: 3, Dst: prefix(10, 0, 0, 0, 8), Out: 0}}
	same(t, "none", of(t, a, rules(t, l...), 4, bdd.False), port.Sets{Out: make([]int, 4)})
	same(t, "all by the first", of(t, a, rules(t, l...), 4, bdd.True), port.Sets{Out: []int{0, 0, 0, bdd.True}})
}

// P12.1: what the best rule says: by each port, dropped, and none.
func TestOf(t *testing.T) {
	a := arena(t, 10000)
	ten, one, two := prefix(10, 0, 0, 0, 8), prefix(10, 1, 0, 0, 16), prefix(10, 2, 0, 0, 16)
	x := rules(t,
		api.Rule{ID: 1, Dst: ten, Out: 0},
		api.Rule{ID: 2, Dst: one, Out: 2},
		api.Rule{ID: 3, Dst: two, Out: api.Drop},
		api.Rule{ID: 4, Dst: prefix(11, 0, 0, 0, 8), Out: 2},
	)
	s := of(t, a, x, 3, bdd.True)
	rest := set(t)(a.Join(bdd.Diff, to(t, a, ten), to(t, a, one)))
	rest = set(t)(a.Join(bdd.Diff, rest, to(t, a, two)))
	last := set(t)(a.Join(bdd.Or, to(t, a, one), to(t, a, prefix(11, 0, 0, 0, 8))))
	same(t, "three", s, port.Sets{Out: []int{rest, bdd.False, last}, Drop: to(t, a, two), Hole: set(t)(a.Not(to(t, a, prefix(10, 0, 0, 0, 7))))})
	// By priority, ahead of bits.
	x.Add(api.Rule{ID: 5, Dst: ten, Prio: 1, Out: 1})
	s = of(t, a, x, 3, to(t, a, ten))
	same(t, "a greater priority", s, port.Sets{Out: []int{bdd.False, to(t, a, ten), bdd.False}})
	x.Add(api.Rule{ID: 6, Prio: 2, Out: api.Drop})
	same(t, "all dropped", of(t, a, x, 3, bdd.True), port.Sets{Out: make([]int, 3), Drop: bdd.True})
	// Of one priority and one prefix the lesser ID; what the rule's Dev is doesn't count.
	x = rules(t, api.Rule{ID: 9, Dev: -5, Dst: ten, Out: 0}, api.Rule{ID: 8, Dev: 99, Dst: ten, Out: 1})
	same(t, "lesser ID", of(t, a, x, 2, to(t, a, ten)), port.Sets{Out: []int{bdd.False, to(t, a, ten)}})
}

// P12.1: a device without ports, and one with as many as there may be, each of which has a rule.
func TestPorts(t *testing.T) {
	a := arena(t, 1000)
	high := prefix(128, 0, 0, 0, 1)
	s := of(t, a, rules(t, api.Rule{Dst: high, Out: api.Drop}), 0, bdd.True)
	same(t, "no port", s, port.Sets{Drop: to(t, a, high), Hole: to(t, a, prefix(0, 0, 0, 0, 1))})
	x, want := table.New(), port.Sets{}
	for i := range api.MaxPorts {
		p := prefix(uint32(i)<<5, 0, 0, 0, 3)
		x.Add(api.Rule{ID: i, Dst: p, Out: i})
		want.Out = append(want.Out, to(t, a, p))
	}
	same(t, "eight ports", of(t, a, x, api.MaxPorts, bdd.True), want)
}

// Errors: a nil arena, whatever else is wrong.
func TestNil(t *testing.T) {
	wrong := rules(t, api.Rule{Out: 99})
	for _, x := range []*table.Table{nil, table.New(), wrong} {
		for _, n := range append([]int{0, 1}, far...) {
			if s, e := port.Of(nil, x, n, n); e != api.ErrNil || !isZero(s) {
				t.Errorf("Of = %v, %d", s, e)
			}
		}
	}
	for _, s := range []port.Sets{{}, {Out: []int{1, 2}}, {Hole: -1}} {
		if f, e := port.Delta(nil, s, port.Sets{}); e != api.ErrNil || f != 0 {
			t.Errorf("Delta = %d, %d", f, e)
		}
	}
	for _, n := range append([]int{0}, far...) {
		if f, e := port.Permit(nil, api.Topo{Ports: []int{1}}, n, n, true); e != api.ErrNil || f != 0 {
			t.Errorf("Permit = %d, %d", f, e)
		}
	}
}

// Errors: regions that are no sets, and numbers of ports that may not be, ahead of what is wrong with rules.
func TestOfErrArg(t *testing.T) {
	a := arena(t, 1000)
	f := to(t, a, prefix(10, 0, 0, 0, 8))
	for _, x := range []*table.Table{nil, rules(t, api.Rule{ID: 1, Dst: prefix(9, 0, 0, 0, 8)}), rules(t, api.Rule{Out: 99})} {
		for _, n := range append([]int{a.Len(), a.Len() + 1}, far...) {
			refused(t, api.ErrArg, a, x, 1, n)
			refused(t, api.ErrArg, a, x, n, f)
			refused(t, api.ErrArg, a, x, n, n)
		}
		refused(t, api.ErrArg, a, x, api.MaxPorts+1, f)
		refused(t, api.ErrArg, a, x, 1, -1)
	}
	a.Cut(f)
	refused(t, api.ErrArg, a, nil, 1, f)
	refused(t, api.ErrArg, &bdd.Arena{}, nil, 1, bdd.True)
}

// Errors: a rule by no port, be it hidden or of no header of the region, ahead of a want of room.
func TestOfErrPort(t *testing.T) {
	ten := prefix(10, 0, 0, 0, 8)
	for _, a := range []*bdd.Arena{arena(t, 1000), arena(t, 2)} {
		for _, out := range append([]int{-2, 3, 8}, slices.DeleteFunc(slices.Clone(far), func(n int) bool { return n == api.Drop })...) {
			bad := api.Rule{ID: 5, Dst: ten, Out: out}
			refused(t, api.ErrPort, a, rules(t, bad), 3, bdd.True)
			refused(t, api.ErrPort, a, rules(t, bad), 3, bdd.False)
			refused(t, api.ErrPort, a, rules(t, bad), 0, bdd.True)
			refused(t, api.ErrPort, a, rules(t, bad, api.Rule{ID: 1, Prio: 1, Out: 0}), 3, bdd.True)
			refused(t, api.ErrPort, a, rules(t, bad, api.Rule{ID: 9, Out: 0}), 3, bdd.True)
			refused(t, api.ErrPort, a, rules(t, bad, api.Rule{ID: 1, Dst: ten, Out: api.Drop}), 3, bdd.True)
		}
		refused(t, api.ErrPort, a, rules(t, api.Rule{Dst: ten}), 0, bdd.True)
		refused(t, api.ErrPort, a, rules(t, api.Rule{Dst: ten, Out: 7}), 7, bdd.True)
	}
	a := arena(t, 1000)
	of(t, a, rules(t, api.Rule{Dst: ten, Out: 7}), 8, bdd.True)
	of(t, a, rules(t, api.Rule{Dst: ten, Out: api.Drop}), 0, bdd.True)
}

// P12.2: what goes another way: out by another port, dropped ahead, no more a hole.
func TestDelta(t *testing.T) {
	a := arena(t, 10000)
	ten, one := prefix(10, 0, 0, 0, 8), prefix(10, 1, 0, 0, 16)
	first := api.Rule{ID: 1, Dst: ten, Out: 0}
	x := of(t, a, rules(t, first), 2, bdd.True)
	for _, c := range []struct {
		name string
		l    []api.Rule
		want int
	}{
		{"the same", []api.Rule{first}, bdd.False},
		{"another ID, the same way", []api.Rule{{ID: 7, Prio: 3, Dst: ten, Out: 0}}, bdd.False},
		{"a part goes the same way", []api.Rule{first, {ID: 2, Dst: one, Out: 0}}, bdd.False},
		{"a part by another port", []api.Rule{first, {ID: 2, Dst: one, Out: 1}}, to(t, a, one)},
		{"a part dropped", []api.Rule{first, {ID: 2, Dst: one, Out: api.Drop}}, to(t, a, one)},
		{"all of it dropped", []api.Rule{{ID: 1, Dst: ten, Out: api.Drop}}, to(t, a, ten)},
		{"no rule", nil, to(t, a, ten)},
		{"a hidden rule besides", []api.Rule{first, {ID: 2, Dst: ten, Out: 1}}, bdd.False},
		{"holes go out, too", []api.Rule{{Out: 0}}, set(t)(a.Not(to(t, a, ten)))},
		{"holes are dropped", []api.Rule{first, {Out: api.Drop}}, set(t)(a.Not(to(t, a, ten)))},
		{"all of them unlike", []api.Rule{{Out: 1}}, bdd.True},
	} {
		y := of(t, a, rules(t, c.l...), 2, bdd.True)
		for _, f := range []int{set(t)(port.Delta(a, x, y)), set(t)(port.Delta(a, y, x))} {
			if f != c.want {
				t.Errorf("%s: Delta = %d, want %d", c.name, f, c.want)
			}
		}
	}
	// Without ports there still are those that are dropped, and holes.
	x, y := of(t, a, nil, 0, bdd.True), of(t, a, rules(t, api.Rule{Dst: ten, Out: api.Drop}), 0, bdd.True)
	if f := set(t)(port.Delta(a, x, y)); f != to(t, a, ten) {
		t.Errorf("no port: Delta = %d", f)
	}
	// A header of one region alone is in a set of one, and in none of the other.
	half := of(t, a, nil, 0, to(t, a, prefix(0, 0, 0, 0, 1)))
	for _, f := range []int{set(t)(port.Delta(a, x, half)), set(t)(port.Delta(a, half, x))} {
		if f != to(t, a, prefix(128, 0, 0, 0, 1)) {
			t.Errorf("two regions: Delta = %d", f)
		}
	}
}

// Errors: unlike ports, then numbers that are no sets, at each place; no node is new.
func TestDeltaErrors(t *testing.T) {
	a := arena(t, 1000)
	f, g := to(t, a, prefix(10, 0, 0, 0, 8)), to(t, a, prefix(11, 0, 0, 0, 8))
	ask := func(x, y port.Sets) {
		t.Helper()
		was := a.Len()
		for _, l := range [][2]port.Sets{{x, y}, {y, x}} {
			if d, e := port.Delta(a, l[0], l[1]); e != api.ErrArg || d != 0 || a.Len() != was {
				t.Errorf("Delta(%v, %v) = %d, %d, %d nodes, %d ahead", l[0], l[1], d, e, a.Len(), was)
			}
		}
	}
	ask(port.Sets{Out: []int{f}}, port.Sets{Out: []int{f, f}})
	ask(port.Sets{}, port.Sets{Out: []int{f}})
	ask(port.Sets{Out: []int{0, 0}}, port.Sets{Out: []int{}})
	ask(port.Sets{Out: make([]int, 9)}, port.Sets{Out: make([]int, 8)})
	for _, n := range append([]int{a.Len()}, far...) {
		y := port.Sets{Out: []int{g, f}, Drop: f, Hole: g}
		ask(port.Sets{Out: []int{n, g}, Drop: f, Hole: f}, y)
		ask(port.Sets{Out: []int{f, n}, Drop: f, Hole: f}, y)
		ask(port.Sets{Out: []int{f, g}, Drop: n, Hole: f}, y)
		ask(port.Sets{Out: []int{f, g}, Drop: f, Hole: n}, y)
		ask(port.Sets{Hole: n}, port.Sets{Hole: n})
		ask(port.Sets{Out: []int{n}}, port.Sets{})
	}
	if d, e := port.Delta(a, port.Sets{}, port.Sets{Out: []int{}}); d != bdd.False || e != api.OK {
		t.Errorf("Delta of none = %d, %d", d, e)
	}
}

// allow is a filter's entry at port 1 of device 1.
func allow(in, permit bool, f api.Filter) api.ACE {
	return api.ACE{Dev: 1, Port: 1, In: in, Permit: permit, F: f}
}

// goes is the filter that what goes to a prefix passes.
func goes(p api.Prefix) api.Filter {
	f := filter.All()
	f.Dst = p
	return f
}

// P12.2: the first entry of the port and the way counts; without one all are let through.
func TestPermit(t *testing.T) {
	a := arena(t, 10000)
	ten, one := prefix(10, 0, 0, 0, 8), prefix(10, 1, 0, 0, 16)
	besides := set(t)(a.Join(bdd.Diff, to(t, a, ten), to(t, a, one)))
	yes := func(p api.Prefix) api.ACE { return allow(true, true, goes(p)) }
	no := func(p api.Prefix) api.ACE { return allow(true, false, goes(p)) }
	whole := api.Prefix{}
	for _, c := range []struct {
		name string
		l    []api.ACE
		want int
	}{
		{"none", nil, bdd.True},
		{"one lets in", []api.ACE{yes(ten)}, bdd.True},
		{"one doesn't", []api.ACE{no(ten)}, set(t)(a.Not(to(t, a, ten)))},
		{"none at all", []api.ACE{no(whole)}, bdd.False},
		{"one alone", []api.ACE{yes(ten), no(whole)}, to(t, a, ten)},
		{"one alone, the other way round", []api.ACE{no(whole), yes(ten)}, bdd.False},
		{"all but a part of one", []api.ACE{no(one), yes(ten), no(whole)}, besides},
		{"the last one counts no more", []api.ACE{yes(one), no(ten), yes(whole)}, set(t)(a.Not(besides))},
		{"the same twice", []api.ACE{yes(ten), no(ten)}, bdd.True},
		{"the same twice, the other way round", []api.ACE{no(ten), yes(ten)}, set(t)(a.Not(to(t, a, ten)))},
	} {
		x := api.Topo{Ports: []int{2, 2}, ACEs: c.l}
		if f := set(t)(port.Permit(a, x, 1, 1, true)); f != c.want {
			t.Errorf("%s: Permit = %d, want %d", c.name, f, c.want)
		}
		for _, o := range []struct {
			dev, port int
			in        bool
		}{{1, 1, false}, {1, 0, true}, {0, 1, true}, {0, 0, false}} {
			if f := set(t)(port.Permit(a, x, o.dev, o.port, o.in)); f != bdd.True {
				t.Errorf("%s: Permit(%v) = %d", c.name, o, f)
			}
		}
		for i := range x.ACEs {
			x.ACEs[i].In = false
		}
		if f := set(t)(port.Permit(a, x, 1, 1, false)); f != c.want {
			t.Errorf("%s, out: Permit = %d, want %d", c.name, f, c.want)
		}
	}
}

// P12.2: each of a filter's fields counts.
func TestPermitFields(t *testing.T) {
	a := arena(t, 10000)
	f := api.Filter{Dst: prefix(10, 0, 0, 0, 8), Src: prefix(11, 0, 0, 0, 8), Proto: 6, SPort: api.Range{Low: 1, High: 2}, DPort: api.Range{Low: 80, High: 90}}
	want := set(t)(a.Not(set(t)(enc.Filter(a, f))))
	if g := set(t)(port.Permit(a, api.Topo{Ports: []int{0, 2}, ACEs: []api.ACE{allow(true, false, f)}}, 1, 1, true)); g != want {
		t.Errorf("Permit = %d, want %d", g, want)
	}
}

// wrongFilters are some that may not be, with what is wrong.
func wrongFilters() map[api.Filter]api.Errno {
	dst, src, proto, bounds, several := filter.All(), filter.All(), filter.All(), filter.All(), filter.All()
	dst.Dst.Bits = 33
	src.Src.Addr = 1
	proto.Proto = -2
	bounds.SPort = api.Range{Low: 2, High: 1}
	several.Proto, several.DPort = 256, api.Range{Low: 2, High: 1}
	return map[api.Filter]api.Errno{dst: api.ErrPrefix, src: api.ErrPrefix, proto: api.ErrRange, bounds: api.ErrBounds, several: api.ErrRange}
}

// Errors: no device, no port; then what is wrong with the first wrong entry of that port and way, ahead of a want of room.
func TestPermitErrors(t *testing.T) {
	small, large := arena(t, 2), arena(t, 1000)
	ask := func(want api.Errno, dev, n int, in bool, l ...api.ACE) {
		t.Helper()
		for _, a := range []*bdd.Arena{small, large} {
			if f, e := port.Permit(a, api.Topo{Ports: []int{0, 2}, ACEs: l}, dev, n, in); e != want || f != 0 || a.Len() != 2 {
				t.Errorf("Permit(%d, %d, %v) = %d, %d, %d nodes, want %d", dev, n, in, f, e, a.Len(), want)
			}
		}
	}
	right := allow(true, true, goes(prefix(10, 0, 0, 0, 8)))
	for bad, want := range wrongFilters() {
		entry := allow(true, false, bad)
		for _, n := range append([]int{2}, far...) {
			ask(api.ErrDevice, n, 0, true, entry)
			ask(api.ErrDevice, n, n, true, entry)
			ask(api.ErrPort, 0, n, true, entry)
			ask(api.ErrPort, 1, n, true, entry)
		}
		ask(api.ErrPort, 0, 0, true, entry)
		ask(want, 1, 1, true, entry)
		ask(want, 1, 1, true, right, entry)
		ask(want, 1, 1, true, entry, right)
		ask(want, 1, 1, true, allow(true, true, filter.All()), entry)
		for other, second := range wrongFilters() {
			ask(want, 1, 1, true, right, entry, allow(true, true, other))
			ask(second, 1, 1, true, allow(true, true, other), entry)
			// What is wrong elsewhere isn't asked for there.
			ask(want, 1, 1, true, allow(false, true, other), entry)
		}
		if f, e := port.Permit(large, api.Topo{Ports: []int{0, 2}, ACEs: []api.ACE{entry}}, 1, 1, false); f != bdd.True || e != api.OK {
			t.Errorf("Permit the other way = %d, %d", f, e)
		}
	}
	ask(api.ErrDevice, 2, 0, true)
	ask(api.ErrPort, 0, 0, true)
}

// R3: neither tables nor topologies nor sets that are handed in are changed, and answers share no memory.
func TestHanded(t *testing.T) {
	a := arena(t, 10000)
	x := rules(t, api.Rule{ID: 1, Dst: prefix(10, 0, 0, 0, 8), Out: 1}, api.Rule{ID: 2, Out: api.Drop})
	ahead := x.Rules()
	s, again := of(t, a, x, 2, bdd.True), of(t, a, x, 2, bdd.True)
	for i := range s.Out {
		s.Out[i] = -7
	}
	same(t, "again", of(t, a, x, 2, bdd.True), again)
	if !slices.Equal(x.Rules(), ahead) {
		t.Errorf("rules %v, want %v", x.Rules(), ahead)
	}
	roomy := append(make([]int, 0, 8), again.Out...)
	roomy[:8][2], roomy[:8][3] = -5, -6
	y := port.Sets{Out: roomy, Drop: again.Drop, Hole: again.Hole}
	if f, e := port.Delta(a, y, of(t, a, nil, 2, bdd.True)); f != bdd.True || e != api.OK {
		t.Errorf("Delta = %d, %d", f, e)
	}
	same(t, "handed in", y, again)
	if roomy[:8][2] != -5 || roomy[:8][3] != -6 {
		t.Errorf("behind the end: %v", roomy[:8])
	}
	l := []api.ACE{allow(true, false, goes(prefix(10, 0, 0, 0, 8))), allow(false, true, filter.All()), allow(true, true, filter.All())}
	top := api.Topo{Ports: []int{0, 2}, ACEs: slices.Clone(l)}
	set(t)(port.Permit(a, top, 1, 1, true))
	if !slices.Equal(top.ACEs, l) || !slices.Equal(top.Ports, []int{0, 2}) {
		t.Errorf("topology %v", top)
	}
}
