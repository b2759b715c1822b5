package batch_test

import (
	"math"
	"slices"
	"testing"

	"crossbuck/api"
	"crossbuck/batch"
	"crossbuck/step"
	"crossbuck/table"
)

// far are numbers that are no device, no port, no ID and no priority, and below 0 no Drop.
var far = []int{-2, -3, -1 << 32, math.MinInt, math.MaxInt, 1 << 32, api.MaxID + 2}

// prefix is the one of four numbers, and so many bits.
func prefix(a, b, c, d uint32, n int) api.Prefix {
	return api.Prefix{Addr: a<<24 | b<<16 | c<<8 | d, Bits: n}
}

// ring is so many devices, each with three ports: port 1 joined with port 0 of the next one, port 2 with nothing.
func ring(devs int) api.Topo {
	var x api.Topo
	for dev := range devs {
		x.Ports = append(x.Ports, 3)
		x.Links = append(x.Links, api.Link{Dev: dev, Port: 1, Peer: (dev + 1) % devs, PeerPort: 0})
	}
	return x
}

// made is a net of a topology that may be, with rules that may be.
func made(t *testing.T, top api.Topo, l ...api.Rule) *step.Net {
	t.Helper()
	n, e := step.New(top)
	if e != api.OK {
		t.Fatalf("New = %d", e)
	}
	for _, r := range l {
		if e := n.Change(api.Change{Rule: r}); e != api.OK {
			t.Fatalf("%v comes: %d", r, e)
		}
	}
	return n
}

// come are changes by which rules come; leave those by which they go, with all spoilt that doesn't count.
func come(l ...api.Rule) []api.Change {
	var out []api.Change
	for _, r := range l {
		out = append(out, api.Change{Rule: r})
	}
	return out
}
func leave(l ...int) []api.Change {
	var out []api.Change
	for _, id := range l {
		r := api.Rule{ID: id, Dev: -7, Dst: api.Prefix{Addr: 1, Bits: 99}, Prio: math.MinInt, Out: 77}
		out = append(out, api.Change{Del: true, Rule: r})
	}
	return out
}

// goes are changes by which rules go, with nothing but their IDs.
func goes(l ...int) []api.Change {
	out := leave(l...)
	for i, id := range l {
		out[i].Rule = api.Rule{ID: id}
	}
	return out
}

// many are so many rules, from an ID on, of one device.
func many(id, n int) []api.Rule {
	var out []api.Rule
	for i := range n {
		out = append(out, api.Rule{ID: id + i, Dst: prefix(10, 0, 0, uint32(i), 32), Prio: i % 3, Out: i%4 - 1})
	}
	return out
}

// list is what a net's devices have, one behind the other, each device's rules as they are asked.
func list(n *step.Net) []api.Rule {
	var out []api.Rule
	for _, t := range n.Tables {
		out = append(out, t.Rules()...)
	}
	return out
}

// same says whether two topologies are the same.
func same(a, b api.Topo) bool {
	return slices.Equal(a.Ports, b.Ports) && slices.Equal(a.Links, b.Links) && slices.Equal(a.ACEs, b.ACEs)
}

// takes says that a batch must be taken, and is the net behind it, whose rules must be so many; the net ahead stays as it was.
func takes(t *testing.T, n *step.Net, rules int, l []api.Change) *step.Net {
	t.Helper()
	was, given := n.Clone(), slices.Clone(l)
	got, e := batch.Apply(n, l)
	if e != (batch.Rejected{At: -1, Err: api.OK}) || got == nil {
		t.Fatalf("Apply(%v) = %v", l, e)
	}
	if got.Len() != rules || !same(got.Topo, was.Topo) || len(got.Tables) != len(was.Tables) {
		t.Errorf("behind %v: %d rules, want %d", l, got.Len(), rules)
	}
	stays(t, n, was, l, given)
	return got
}

// refused says how a batch must be refused; nothing is changed by that.
func refused(t *testing.T, n *step.Net, at int, want api.Errno, l []api.Change) {
	t.Helper()
	was, given := n.Clone(), slices.Clone(l)
	got, e := batch.Apply(n, l)
	if e != (batch.Rejected{At: at, Err: want}) || got != nil {
		t.Errorf("Apply(%v) = %v, %v, want %d, %d", l, got, e, at, want)
	}
	if n != nil {
		stays(t, n, was, l, given)
	}
}

// stays says that a net and a batch are as they were.
func stays(t *testing.T, n, was *step.Net, l, given []api.Change) {
	t.Helper()
	if !same(n.Topo, was.Topo) || !slices.Equal(list(n), list(was)) || !slices.Equal(l, given) {
		t.Errorf("%v of %v were changed: %v of %v", given, list(was), l, list(n))
	}
}

// P17.1: the chapter's example: a batch with a rule that comes, and one of the same ID.
func TestTwiceTheSame(t *testing.T) {
	n := made(t, api.Topo{Ports: []int{1}})
	refused(t, n, 1, api.ErrThere, come(api.Rule{ID: 1}, api.Rule{ID: 1}))
	if n.Len() != 0 || n.Has(1) {
		t.Error("a rule of a batch that may not be is there")
	}
}

// P17.1: rules come and go, each change seen by those behind it.
func TestOneBehindTheOther(t *testing.T) {
	one := api.Rule{ID: 1, Dev: 1, Dst: prefix(10, 0, 0, 0, 8), Prio: 7, Out: 2}
	two := api.Rule{ID: 2, Dst: prefix(10, 1, 0, 0, 16), Out: api.Drop}
	n := made(t, ring(2), one)
	for _, c := range []struct {
		l    []api.Change
		want []api.Rule
	}{
		{come(two), []api.Rule{two, one}},
		{leave(1), nil},
		{slices.Concat(leave(1), come(two)), []api.Rule{two}},
		{slices.Concat(come(two), leave(2)), []api.Rule{one}},
		{slices.Concat(leave(1), come(one)), []api.Rule{one}},
		{slices.Concat(leave(1), come(one), leave(1), come(one, two), leave(1)), []api.Rule{two}},
		{slices.Concat(come(two), leave(2), come(two), leave(2, 1)), nil},
	} {
		if got := list(takes(t, n, len(c.want), c.l)); !slices.Equal(got, c.want) {
			t.Errorf("behind %v: %v, want %v", c.l, got, c.want)
		}
	}
	refused(t, n, 0, api.ErrThere, slices.Concat(come(one), leave(1)))
	refused(t, n, 0, api.ErrNone, slices.Concat(leave(2), come(two)))
	refused(t, n, 2, api.ErrNone, slices.Concat(come(two), leave(2, 2)))
	refused(t, n, 3, api.ErrThere, slices.Concat(come(two), leave(2), come(two, two)))
}

// P17.1: the first change that may not be is told, wherever it stands; those ahead of it aren't done.
func TestFirstThatMayNotBe(t *testing.T) {
	n := made(t, ring(2), many(100, 3)...)
	for at := range api.MaxBatch {
		l := come(many(1, api.MaxBatch)...)
		for i := at; i < len(l); i += 5 {
			l[i].Rule.Dev = 2
		}
		refused(t, n, at, api.ErrDevice, l)
	}
	refused(t, n, 1, api.ErrNone, slices.Concat(come(many(1, 1)...), leave(9), come(api.Rule{ID: -1})))
	refused(t, n, 1, api.ErrRange, slices.Concat(come(many(1, 1)...), come(api.Rule{ID: -1}), leave(9)))
}

// P17.1: a batch has 1 to 32 changes; of these errors the first one is told, at -1.
func TestHowManyChanges(t *testing.T) {
	n := made(t, ring(2))
	for _, count := range []int{1, 2, 31, 32} {
		takes(t, n, count, come(many(1, count)...))
	}
	refused(t, n, -1, api.ErrArg, nil)
	refused(t, n, -1, api.ErrArg, []api.Change{})
	for _, count := range []int{33, 34, 64, 5000} {
		refused(t, n, -1, api.ErrMany, come(many(1, count)...))
		refused(t, n, -1, api.ErrMany, make([]api.Change, count))
	}
	wrong := come(many(-1, 33)...)
	refused(t, n, -1, api.ErrMany, wrong)
	refused(t, nil, -1, api.ErrNil, nil)
	refused(t, nil, -1, api.ErrNil, come(many(1, 1)...))
	refused(t, nil, -1, api.ErrNil, wrong)
}

// P17.1: of a rule that comes the ID and the priority are bounded; of one that goes the ID is just not there.
func TestRange(t *testing.T) {
	n := made(t, ring(2))
	for _, r := range []api.Rule{{}, {ID: api.MaxID}, {Prio: api.MaxPrio}, {ID: api.MaxID, Prio: api.MaxPrio}, {ID: api.MaxID - 1, Prio: 1}} {
		if got := list(takes(t, n, 1, come(r))); !slices.Equal(got, []api.Rule{r}) {
			t.Errorf("%v came as %v", r, got)
		}
		takes(t, made(t, ring(2), r), 0, leave(r.ID))
	}
	for _, id := range append([]int{-1, api.MaxID + 1}, far...) {
		refused(t, n, 0, api.ErrRange, come(api.Rule{ID: id}))
		refused(t, n, 0, api.ErrNone, leave(id))
	}
	for _, prio := range append([]int{-1, api.MaxPrio + 1}, far...) {
		refused(t, n, 0, api.ErrRange, come(api.Rule{ID: 1, Prio: prio}))
	}
}

// P17.1: layer 13's errors, each at its place.
func TestChangeSays(t *testing.T) {
	n := made(t, ring(2), api.Rule{ID: 5, Dev: 1})
	ok := many(1, 1)[0]
	for _, dev := range append([]int{-1, 2}, far...) {
		refused(t, n, 1, api.ErrDevice, come(ok, api.Rule{ID: 9, Dev: dev}))
	}
	for _, out := range append([]int{3, 8}, far...) {
		refused(t, n, 1, api.ErrPort, come(ok, api.Rule{ID: 9, Out: out}))
	}
	for _, p := range []api.Prefix{{Bits: -1}, {Bits: 33}, {Addr: 1}, {Addr: 1, Bits: 31}} {
		refused(t, n, 1, api.ErrPrefix, come(ok, api.Rule{ID: 9, Dst: p}))
	}
	refused(t, n, 1, api.ErrThere, come(ok, api.Rule{ID: 5}))
	refused(t, n, 1, api.ErrThere, come(ok, api.Rule{ID: 5, Dst: api.Prefix{Bits: -1}}))
	refused(t, n, 1, api.ErrNone, append(come(ok), leave(9)...))
	for _, out := range []int{api.Drop, 0, 1, 2} {
		takes(t, n, 3, come(ok, api.Rule{ID: 9, Out: out}))
	}
}

// R2: of one change the error that the chapter names first.
func TestOrderOfErrors(t *testing.T) {
	n := made(t, ring(2), append(many(1, 255), api.Rule{ID: 999})...)
	wrong := api.Prefix{Addr: 1}
	refused(t, n, 0, api.ErrRange, come(api.Rule{ID: -1, Dev: 2, Dst: wrong, Out: 9}))
	refused(t, n, 0, api.ErrRange, come(api.Rule{ID: 1, Prio: -1, Dev: 2, Dst: wrong, Out: 9}))
	refused(t, n, 0, api.ErrDevice, come(api.Rule{ID: 1, Dev: 2, Dst: wrong, Out: 9}))
	refused(t, n, 0, api.ErrPort, come(api.Rule{ID: 1, Dst: wrong, Out: 9}))
	refused(t, n, 0, api.ErrThere, come(api.Rule{ID: 1, Dst: wrong}))
	refused(t, n, 0, api.ErrPrefix, come(api.Rule{ID: 1000, Dst: wrong}))
	refused(t, n, 0, api.ErrMany, come(api.Rule{ID: 1000}))
	refused(t, n, 0, api.ErrNone, leave(1000))
}

// P17.1: behind each change there are at most 256 rules, in all devices together.
func TestHowManyRules(t *testing.T) {
	n := made(t, ring(2), many(1, 250)...)
	more := many(1000, 7)
	more[1].Dev, more[4].Dev, more[6].Dev = 1, 1, 1
	full := takes(t, n, 256, come(more[:6]...))
	refused(t, n, 6, api.ErrMany, come(more...))
	refused(t, full, 0, api.ErrMany, come(more[6]))
	refused(t, full, 0, api.ErrMany, slices.Concat(come(more[6]), leave(1)))
	takes(t, full, 256, slices.Concat(leave(1), come(more[6])))
	refused(t, full, 2, api.ErrMany, slices.Concat(leave(1), come(more[6]), come(api.Rule{ID: 2000}), leave(2)))
	takes(t, full, 255, leave(more[5].ID))
}

// P17.1: a net that has more rules than a batch may leave: none that leaves too many may be, be it that some go.
func TestMoreThanMany(t *testing.T) {
	n := made(t, ring(2), many(1, 258)...)
	refused(t, n, 0, api.ErrMany, leave(1))
	refused(t, n, 0, api.ErrMany, leave(1, 2))
	refused(t, n, 0, api.ErrNone, leave(1000))
	takes(t, made(t, ring(2), many(1, 257)...), 256, leave(1))
}

// P17.1, R3: the net behind a batch and the one ahead of it have nothing in common.
func TestForItself(t *testing.T) {
	f := api.Filter{Proto: api.Any, SPort: api.Range{High: 9}, DPort: api.Range{High: 9}}
	top := ring(2)
	top.ACEs = []api.ACE{{Dev: 1, Port: 2, Permit: true, F: f}}
	n := made(t, top, many(1, 3)...)
	l := come(many(10, 2)...)
	next := takes(t, n, 5, l)
	was, then := n.Clone(), next.Clone()
	l[0].Rule, l[1].Rule = api.Rule{ID: 77}, api.Rule{ID: 78}
	stays(t, next, then, nil, nil)
	next.Change(leave(1)[0])
	next.Change(come(api.Rule{ID: 500, Dev: 1})[0])
	next.Topo.Ports[0], next.Topo.Links[0].Port, next.Topo.ACEs[0].Dev = 8, 9, 7
	stays(t, n, was, nil, nil)
	next = takes(t, n, 5, come(many(10, 2)...))
	n.Change(leave(2)[0])
	n.Change(come(api.Rule{ID: 501, Dev: 1})[0])
	n.Topo.Ports[1], n.Topo.Links[1].Port, n.Topo.ACEs[0].Port = 8, 9, 7
	stays(t, next, then, nil, nil)
}

// R3: a batch that is a piece of a longer list is taken as it is, and what stands behind it stays.
func TestRoomBehind(t *testing.T) {
	n := made(t, ring(2), many(1, 3)...)
	room := slices.Concat(come(many(10, 2)...), leave(1), come(many(20, 3)...))
	was := slices.Clone(room)
	takes(t, n, 4, room[:3])
	batch.Prefixes(n, room[:3])
	batch.Regions(n, room[:3], 3)
	batch.Back(n, room[:3])
	if !slices.Equal(room, was) {
		t.Errorf("the room behind a batch was used: %v", room)
	}
}

// prefixes says what Prefixes and Regions must be, of each shift.
func prefixes(t *testing.T, n *step.Net, l []api.Change, want []api.Prefix, regions [4][]int) {
	t.Helper()
	if got := batch.Prefixes(n, l); !slices.Equal(got, want) {
		t.Errorf("Prefixes(%v) = %v, want %v", l, got, want)
	}
	for shift, want := range regions {
		if got := batch.Regions(n, l, shift); !slices.Equal(got, want) {
			t.Errorf("Regions(%v, %d) = %v, want %v", l, shift, got, want)
		}
	}
	for _, shift := range append([]int{-1, 4}, far...) {
		if got := batch.Regions(n, l, shift); len(got) != 0 {
			t.Errorf("Regions(%v, %d) = %v", l, shift, got)
		}
	}
}

// P17.2: the prefix of a rule that comes is its own; of one that goes that of the net's rule, or of the one that came.
func TestPrefixes(t *testing.T) {
	low, high, mid, all := prefix(10, 0, 0, 0, 8), prefix(224, 0, 0, 0, 3), prefix(64, 0, 0, 0, 2), api.Prefix{}
	n := made(t, ring(2), api.Rule{ID: 1, Dev: 1, Dst: low}, api.Rule{ID: 2, Dst: mid}, api.Rule{ID: 3, Dst: all})
	as := func(id int, p api.Prefix) api.Rule { return api.Rule{ID: id, Dst: p} }
	one := [4][]int{{0}, {0}, {0}, {0}}
	prefixes(t, n, leave(1), []api.Prefix{low}, one)
	prefixes(t, n, come(as(9, high)), []api.Prefix{high}, [4][]int{{0}, {1}, {3}, {7}})
	prefixes(t, n, leave(2), []api.Prefix{mid}, [4][]int{{0}, {0}, {1}, {2, 3}})
	prefixes(t, n, leave(3), []api.Prefix{all}, [4][]int{{0}, {0, 1}, {0, 1, 2, 3}, {0, 1, 2, 3, 4, 5, 6, 7}})
	prefixes(t, n, slices.Concat(come(as(9, high)), leave(1, 2)), []api.Prefix{high, low, mid},
		[4][]int{{0}, {0, 1}, {0, 1, 3}, {0, 2, 3, 7}})
	prefixes(t, n, slices.Concat(come(as(9, high)), leave(9)), []api.Prefix{high, high}, [4][]int{{0}, {1}, {3}, {7}})
	again := slices.Concat(leave(1), come(as(1, mid)), leave(1), come(as(1, high)), leave(1))
	prefixes(t, n, again, []api.Prefix{low, mid, mid, high, high}, [4][]int{{0}, {0, 1}, {0, 1, 3}, {0, 2, 3, 7}})
	anew := slices.Concat(come(as(9, high)), leave(9), come(as(9, low)), leave(9))
	prefixes(t, n, anew, []api.Prefix{high, high, low, low}, [4][]int{{0}, {0, 1}, {0, 3}, {0, 7}})
}

// back says what Back must be, and that it may be and leads back.
func back(t *testing.T, n *step.Net, l, want []api.Change) {
	t.Helper()
	got := batch.Back(n, l)
	if !slices.Equal(got, want) {
		t.Errorf("Back(%v) = %v, want %v", l, got, want)
	}
	next, e := batch.Apply(n, l)
	if e.Err != api.OK {
		t.Fatalf("Apply(%v) = %v", l, e)
	}
	home, e := batch.Apply(next, got)
	if e.Err != api.OK || !slices.Equal(list(home), list(n)) {
		t.Errorf("behind %v and %v: %v", l, got, e)
	}
}

// P17.2: each change is undone, the last one first: what came goes, and what went comes as it was.
func TestBack(t *testing.T) {
	one := api.Rule{ID: 1, Dev: 1, Dst: prefix(10, 0, 0, 0, 8), Prio: 7, Out: 2}
	two := api.Rule{ID: 2, Dst: prefix(10, 1, 0, 0, 16), Prio: 1, Out: api.Drop}
	other := api.Rule{ID: 1, Dst: prefix(192, 0, 0, 0, 2), Prio: 9, Out: 1}
	n := made(t, ring(2), one)
	back(t, n, come(two), goes(2))
	back(t, n, leave(1), come(one))
	back(t, n, slices.Concat(leave(1), come(two)), slices.Concat(goes(2), come(one)))
	back(t, n, slices.Concat(come(two), leave(1)), slices.Concat(come(one), goes(2)))
	back(t, n, slices.Concat(come(two), leave(2)), slices.Concat(come(two), goes(2)))
	back(t, n, slices.Concat(leave(1), come(other)), slices.Concat(goes(1), come(one)))
	back(t, n, slices.Concat(leave(1), come(other), leave(1), come(two)), slices.Concat(goes(2), come(other), goes(1), come(one)))
	back(t, n, slices.Concat(leave(1), come(other), leave(1), come(one), leave(1)),
		slices.Concat(come(one), goes(1), come(other), goes(1), come(one)))
}

// P17.2: of a batch as long as may be, in a net that is as full as may be.
func TestBackWhereFull(t *testing.T) {
	rules, more := many(1, 256), many(1000, 16)
	n := made(t, ring(2), rules...)
	var l, want []api.Change
	for i := range 16 {
		l = slices.Concat(l, leave(rules[i].ID), come(more[i]))
		want = slices.Concat(goes(more[i].ID), come(rules[i]), want)
	}
	back(t, n, l, want)
}

// R3: each answer is new memory.
func TestAnswersAreNew(t *testing.T) {
	n := made(t, ring(2), many(1, 3)...)
	l := slices.Concat(leave(1), come(many(10, 2)...))
	given := slices.Clone(l)
	p, r, b := batch.Prefixes(n, l), batch.Regions(n, l, 3), batch.Back(n, l)
	p2, r2, b2 := slices.Clone(p), slices.Clone(r), slices.Clone(b)
	p[0], r[0], b[0] = prefix(1, 1, 1, 1, 32), 99, api.Change{}
	if !slices.Equal(l, given) {
		t.Errorf("a batch shares memory with what is answered of it: %v", l)
	}
	if !slices.Equal(batch.Prefixes(n, l), p2) || !slices.Equal(batch.Regions(n, l, 3), r2) || !slices.Equal(batch.Back(n, l), b2) {
		t.Error("what was answered was kept")
	}
}

// P17.2, R1: of a nil net there is nothing.
func TestNil(t *testing.T) {
	for _, l := range [][]api.Change{nil, {}, come(many(1, 2)...), leave(1), make([]api.Change, 100)} {
		for shift := -1; shift < 5; shift++ {
			if p, r, b := batch.Prefixes(nil, l), batch.Regions(nil, l, shift), batch.Back(nil, l); len(p)+len(r)+len(b) > 0 {
				t.Errorf("of nil and %v: %v, %v, %v", l, p, r, b)
			}
		}
	}
	n := made(t, ring(2), many(1, 2)...)
	if p, r, b := batch.Prefixes(n, nil), batch.Regions(n, nil, 3), batch.Back(n, nil); len(p)+len(r)+len(b) > 0 {
		t.Errorf("of no change: %v, %v, %v", p, r, b)
	}
}

// R1: nets that step's own calls didn't make, and batches that may not be.
func TestHandMade(t *testing.T) {
	for _, n := range []*step.Net{
		{}, {Topo: ring(2)}, {Topo: ring(2), Tables: make([]*table.Table, 2)},
		{Tables: make([]*table.Table, 20)}, {Tables: []*table.Table{nil, new(table.Table)}},
		{Topo: api.Topo{Ports: []int{-1, math.MaxInt}}, Tables: make([]*table.Table, 1)},
		made(t, ring(3), many(1, 300)...),
	} {
		for _, id := range append([]int{0, 1, 5}, far...) {
			r := api.Rule{ID: id, Dev: id, Dst: api.Prefix{Bits: id}, Prio: id, Out: id}
			l := slices.Concat(leave(id), come(r, r), leave(id, id), come(api.Rule{Out: api.Drop}))
			for i := range l {
				batch.Apply(n, l[i:])
				batch.Apply(n, l[:i])
				batch.Prefixes(n, l[i:])
				batch.Regions(n, l[i:], id)
				batch.Regions(n, l[i:], i)
				batch.Back(n, l[i:])
			}
		}
	}
}
