package table_test

import (
	"math"
	"slices"
	"testing"

	"crossbuck/api"
	"crossbuck/table"
)

// prefix is the one of four numbers, and so many bits.
func prefix(a, b, c, d uint32, n int) api.Prefix {
	return api.Prefix{Addr: a<<24 | b<<16 | c<<8 | d, Bits: n}
}

// rule is one that goes out by a port that tells it from others.
func rule(id, prio int, p api.Prefix) api.Rule {
	return api.Rule{ID: id, Dev: id + 100, Dst: p, Prio: prio, Out: id + 200}
}

// wrongPrefixes are some that may not be.
func wrongPrefixes() []api.Prefix {
	return []api.Prefix{
		{Bits: -1}, {Bits: 33}, {Bits: math.MinInt}, {Bits: math.MaxInt}, {Bits: 1 << 32}, {Addr: math.MaxUint32, Bits: 33},
		{Addr: 1}, {Addr: 1 << 31}, {Addr: math.MaxUint32, Bits: 31}, prefix(10, 0, 0, 1, 8), prefix(10, 128, 0, 0, 8),
	}
}

// made is a table of these rules, each of which must be new.
func made(t *testing.T, l ...api.Rule) *table.Table {
	t.Helper()
	x := table.New()
	for _, r := range l {
		if e := x.Add(r); e != api.OK {
			t.Fatalf("Add(%v) = %d", r, e)
		}
	}
	return x
}

// drop takes a rule away, which must be there.
func drop(t *testing.T, x *table.Table, id int) {
	t.Helper()
	if e := x.Drop(id); e != api.OK {
		t.Fatalf("Drop(%d) = %d", id, e)
	}
}

// same says that a list must be that one.
func same(t *testing.T, what string, got, want []api.Rule) {
	t.Helper()
	if !slices.Equal(got, want) {
		t.Errorf("%s: %v, want %v", what, got, want)
	}
}

// best says which rule must be an address's best one; below 0: none.
func best(t *testing.T, x *table.Table, a uint32, id int) {
	t.Helper()
	want, there := x.Get(id)
	if there != (id >= 0) {
		t.Fatalf("Get(%d) = %v", id, there)
	}
	if r, ok := x.Best(a); r != want || ok != there {
		t.Errorf("Best(%d) = %v, %v, want %v, %v", a, r, ok, want, there)
	}
}

// hidden says which rules of a table must be hidden, by rising IDs.
func hidden(t *testing.T, x *table.Table, want ...int) {
	t.Helper()
	var got []int
	for _, r := range x.Rules() {
		if x.Hidden(r.ID) {
			got = append(got, r.ID)
		}
	}
	slices.Sort(got)
	if !slices.Equal(got, want) {
		t.Errorf("hidden: %v, want %v", got, want)
	}
}

// The chapter's example, and more of it.
func TestExample(t *testing.T) {
	x := made(t, rule(1, 0, prefix(10, 0, 0, 0, 8)), rule(2, 0, prefix(10, 1, 0, 0, 16)))
	best(t, x, prefix(10, 1, 2, 3, 0).Addr, 2)
	best(t, x, prefix(10, 2, 2, 3, 0).Addr, 1)
	best(t, x, prefix(11, 0, 0, 0, 0).Addr, -1)
	hidden(t, x)
}

// P11.1: a new table has nothing; nor has a nil one, nor one that became empty. R5: nor has a zero one.
func TestEmpty(t *testing.T) {
	emptied := made(t, rule(3, 1, prefix(10, 0, 0, 0, 8)))
	drop(t, emptied, 3)
	for name, x := range map[string]*table.Table{"new": table.New(), "nil": nil, "emptied": emptied, "zero": {}, "clone": table.New().Clone()} {
		if x.Len() != 0 || x.Hidden(3) || x.Hidden(0) {
			t.Errorf("%s: Len %d, Hidden %v %v", name, x.Len(), x.Hidden(3), x.Hidden(0))
		}
		for _, id := range []int{0, 3, -1} {
			if r, ok := x.Get(id); ok || r != (api.Rule{}) {
				t.Errorf("%s: Get(%d) = %v, %v", name, id, r, ok)
			}
		}
		for _, p := range append(wrongPrefixes(), api.Prefix{}, prefix(10, 0, 0, 0, 8)) {
			same(t, name, x.Meeting(p), nil)
			if r, ok := x.Best(p.Addr); ok || r != (api.Rule{}) {
				t.Errorf("%s: Best(%d) = %v, %v", name, p.Addr, r, ok)
			}
		}
		same(t, name, x.Rules(), nil)
	}
}

// R1, R2: a nil table, whatever else is wrong; its clone is an empty table that may be filled.
func TestNil(t *testing.T) {
	var x *table.Table
	for _, p := range append(wrongPrefixes(), api.Prefix{}) {
		if e := x.Add(rule(1, 1, p)); e != api.ErrNil {
			t.Errorf("Add(%v) = %d", p, e)
		}
	}
	for _, id := range []int{0, 1, -1, math.MinInt, math.MaxInt} {
		if e := x.Drop(id); e != api.ErrNil {
			t.Errorf("Drop(%d) = %d", id, e)
		}
	}
	for _, c := range []*table.Table{x.Clone(), {}} {
		if c == nil {
			t.Fatal("Clone of nil is nil")
		}
		if e := c.Drop(1); e != api.ErrNone {
			t.Errorf("Drop = %d", e)
		}
		if e := c.Add(rule(1, 1, prefix(10, 0, 0, 0, 8))); e != api.OK || c.Len() != 1 {
			t.Errorf("Add = %d, Len %d", e, c.Len())
		}
		best(t, c, prefix(10, 0, 0, 0, 0).Addr, 1)
	}
}

// P11.1: by priority, then by bits, then by ID; nothing else counts, and no number is too great.
func TestCompare(t *testing.T) {
	l := []api.Rule{ // as they are asked
		rule(9, math.MaxInt, api.Prefix{}), rule(math.MinInt, 1000, api.Prefix{Bits: math.MaxInt}), rule(8, 1000, prefix(10, 0, 0, 0, 32)),
		rule(-3, 5, prefix(10, 0, 0, 0, 16)), rule(2, 5, prefix(9, 0, 0, 0, 16)), rule(3, 5, prefix(8, 0, 0, 0, 16)), rule(1, 5, prefix(10, 0, 0, 0, 8)),
		rule(0, 5, api.Prefix{}), rule(0, 5, api.Prefix{Bits: math.MinInt}), rule(0, 0, prefix(1, 2, 3, 4, 32)), rule(0, -1, prefix(1, 2, 3, 4, 32)),
		rule(math.MinInt, math.MinInt, prefix(10, 0, 0, 0, 8)), rule(math.MaxInt, math.MinInt, prefix(10, 0, 0, 0, 8)),
	}
	for i, a := range l {
		for k, b := range l {
			want := 0
			if i < k {
				want = -1
			} else if i > k {
				want = 1
			}
			if got := table.Compare(a, b); got != want {
				t.Errorf("Compare(%v, %v) = %d, want %d", a, b, got, want)
			}
		}
		other := api.Rule{ID: a.ID, Prio: a.Prio, Dst: api.Prefix{Addr: ^a.Dst.Addr, Bits: a.Dst.Bits}}
		if table.Compare(a, other) != 0 || table.Compare(other, a) != 0 {
			t.Errorf("Compare(%v, %v) isn't 0", a, other)
		}
	}
}

// P11.1: rules come and go, and are as they came.
func TestAddGetDrop(t *testing.T) {
	l := []api.Rule{
		{ID: math.MaxInt, Dev: -5, Dst: prefix(10, 0, 0, 0, 8), Prio: 7, Out: api.Drop},
		{ID: 4, Dev: 3, Dst: prefix(10, 0, 0, 0, 8), Prio: 0, Out: 9},
		{ID: 5, Dst: prefix(10, 0, 0, 0, 8)},
		{ID: 0, Dev: math.MaxInt, Prio: -1, Out: math.MinInt},
		{ID: math.MinInt, Dev: 3, Dst: prefix(255, 255, 255, 255, 32), Prio: math.MinInt, Out: 1},
	}
	x := made(t, l[3], l[1], l[4], l[0], l[2])
	same(t, "Rules", x.Rules(), l)
	for i, r := range l {
		if got, ok := x.Get(r.ID); got != r || !ok || x.Len() != len(l)-i {
			t.Errorf("Get(%d) = %v, %v; Len %d", r.ID, got, ok, x.Len())
		}
		drop(t, x, r.ID)
		if got, ok := x.Get(r.ID); got != (api.Rule{}) || ok || x.Len() != len(l)-i-1 {
			t.Errorf("Get(%d) behind Drop = %v, %v; Len %d", r.ID, got, ok, x.Len())
		}
		same(t, "Rules", x.Rules(), l[i+1:])
		same(t, "Meeting", x.Meeting(api.Prefix{}), l[i+1:])
		if e := x.Drop(r.ID); e != api.ErrNone {
			t.Errorf("Drop(%d) again = %d", r.ID, e)
		}
	}
}

// P11.1, R2: a rule that may not come, or go; the prefix is told ahead of the ID, and nothing is changed.
func TestErrors(t *testing.T) {
	l := []api.Rule{rule(2, 1, prefix(10, 1, 0, 0, 16)), rule(1, 0, prefix(10, 0, 0, 0, 8))}
	x := made(t, l...)
	unchanged := func() {
		t.Helper()
		same(t, "Rules", x.Rules(), l)
		same(t, "Meeting", x.Meeting(api.Prefix{}), l)
		best(t, x, prefix(10, 1, 0, 0, 0).Addr, 2)
		best(t, x, prefix(10, 2, 0, 0, 0).Addr, 1)
		best(t, x, prefix(11, 0, 0, 0, 0).Addr, -1)
	}
	for _, p := range wrongPrefixes() {
		for _, id := range []int{1, 2, 3} {
			if e := x.Add(rule(id, 9, p)); e != api.ErrPrefix {
				t.Errorf("Add(%d, %v) = %d", id, p, e)
			}
		}
		same(t, "Meeting", x.Meeting(p), nil)
		unchanged()
	}
	for _, p := range []api.Prefix{{}, l[0].Dst, l[1].Dst, prefix(11, 0, 0, 0, 8)} {
		for _, id := range []int{1, 2} {
			if e := x.Add(rule(id, 9, p)); e != api.ErrThere {
				t.Errorf("Add(%d, %v) = %d", id, p, e)
			}
			unchanged()
		}
	}
	for _, id := range []int{0, 3, -1, math.MinInt, math.MaxInt, 1<<32 + 1} {
		if e := x.Drop(id); e != api.ErrNone {
			t.Errorf("Drop(%d) = %d", id, e)
		}
		unchanged()
	}
}

// P11.1: a clone is the same, and what comes and goes in one isn't seen in the other.
func TestClone(t *testing.T) {
	l := []api.Rule{rule(1, 3, prefix(10, 0, 0, 0, 8)), rule(2, 2, prefix(10, 1, 0, 0, 16)), rule(3, 0, api.Prefix{})}
	x := made(t, l...)
	y := x.Clone()
	same(t, "clone", y.Rules(), l)
	same(t, "clone", y.Meeting(prefix(10, 1, 2, 3, 32)), l)
	hidden(t, y, 2)
	drop(t, y, 1)
	if e := y.Add(rule(4, 9, prefix(10, 0, 0, 0, 8))); e != api.OK {
		t.Fatal(e)
	}
	drop(t, x, 3)
	if e := x.Add(rule(4, 1, prefix(10, 0, 0, 0, 9))); e != api.OK {
		t.Fatal(e)
	}
	same(t, "first", x.Rules(), []api.Rule{l[0], l[1], rule(4, 1, prefix(10, 0, 0, 0, 9))})
	same(t, "first", x.Meeting(api.Prefix{}), x.Rules())
	same(t, "clone", y.Rules(), []api.Rule{rule(4, 9, prefix(10, 0, 0, 0, 8)), l[1], l[2]})
	same(t, "clone", y.Meeting(api.Prefix{}), y.Rules())
	best(t, x, prefix(11, 0, 0, 0, 0).Addr, -1)
	best(t, y, prefix(11, 0, 0, 0, 0).Addr, 3)
}

// P11.2: priority goes ahead of bits, bits of IDs; the ends of all addresses too.
func TestBest(t *testing.T) {
	x := made(t,
		rule(1, 0, api.Prefix{}), rule(2, 0, prefix(10, 0, 0, 0, 8)), rule(3, 1, prefix(10, 0, 0, 0, 9)), rule(4, 0, prefix(10, 1, 0, 0, 16)),
		rule(5, 2, prefix(10, 128, 0, 0, 9)), rule(7, 2, prefix(10, 128, 0, 0, 9)), rule(6, 2, prefix(10, 192, 0, 0, 10)),
		rule(8, -1, prefix(0, 0, 0, 0, 32)), rule(9, 0, prefix(255, 255, 255, 255, 32)),
	)
	for _, c := range []struct {
		a  uint32
		id int
	}{
		{0, 1}, {1, 1}, {math.MaxUint32, 9}, {math.MaxUint32 - 1, 1}, {prefix(10, 0, 0, 0, 0).Addr - 1, 1},
		{prefix(10, 0, 0, 0, 0).Addr, 3}, {prefix(10, 1, 2, 3, 0).Addr, 3}, {prefix(10, 127, 255, 255, 0).Addr, 3},
		{prefix(10, 128, 0, 0, 0).Addr, 5}, {prefix(10, 191, 255, 255, 0).Addr, 5}, {prefix(10, 192, 0, 0, 0).Addr, 6},
		{prefix(10, 255, 255, 255, 0).Addr, 6}, {prefix(11, 0, 0, 0, 0).Addr, 1},
	} {
		best(t, x, c.a, c.id)
	}
	drop(t, x, 3)
	best(t, x, prefix(10, 1, 2, 3, 0).Addr, 4)
	drop(t, x, 5)
	best(t, x, prefix(10, 128, 0, 0, 0).Addr, 7)
	drop(t, x, 1)
	best(t, x, 0, 8)
	best(t, x, 1, -1)
}

// P11.2: wider ones, narrower ones, and that prefix itself; not by prefixes, but as they are asked.
func TestMeeting(t *testing.T) {
	x := made(t,
		rule(1, 0, api.Prefix{}), rule(2, 5, prefix(10, 0, 0, 0, 8)), rule(3, 0, prefix(10, 1, 0, 0, 16)), rule(4, 9, prefix(10, 2, 0, 0, 16)),
		rule(5, 0, prefix(10, 1, 2, 0, 24)), rule(6, 5, prefix(11, 0, 0, 0, 8)), rule(7, 0, prefix(10, 1, 2, 3, 32)), rule(0, 0, prefix(10, 1, 0, 0, 16)),
	)
	for _, c := range []struct {
		p   api.Prefix
		ids []int
	}{
		{api.Prefix{}, []int{4, 2, 6, 7, 5, 0, 3, 1}}, {prefix(10, 0, 0, 0, 7), []int{4, 2, 6, 7, 5, 0, 3, 1}},
		{prefix(10, 0, 0, 0, 8), []int{4, 2, 7, 5, 0, 3, 1}}, {prefix(10, 1, 0, 0, 16), []int{2, 7, 5, 0, 3, 1}},
		{prefix(10, 1, 2, 3, 32), []int{2, 7, 5, 0, 3, 1}}, {prefix(10, 1, 2, 4, 32), []int{2, 5, 0, 3, 1}},
		{prefix(10, 2, 0, 0, 15), []int{4, 2, 1}}, {prefix(11, 0, 0, 0, 32), []int{6, 1}}, {prefix(12, 0, 0, 0, 6), []int{1}},
	} {
		var want []api.Rule
		for _, id := range c.ids {
			r, _ := x.Get(id)
			want = append(want, r)
		}
		same(t, "Meeting", x.Meeting(c.p), want)
	}
}

// P11.2: hidden by one rule that is asked ahead: of more priority, of more bits, of a less ID; not by itself, nor by one asked behind.
func TestHiddenByOne(t *testing.T) {
	p, half := prefix(10, 0, 0, 0, 8), prefix(10, 0, 0, 0, 9)
	for _, c := range []struct {
		a, b api.Rule
		want []int
	}{
		{rule(1, 0, p), rule(2, 0, p), []int{2}}, {rule(1, 0, p), rule(2, 1, p), []int{1}}, {rule(1, 0, p), rule(2, 0, half), nil},
		{rule(1, 1, p), rule(2, 0, half), []int{2}}, {rule(1, 0, p), rule(2, 1, half), nil}, {rule(1, 1, api.Prefix{}), rule(2, 0, p), []int{2}},
		{rule(1, 0, api.Prefix{}), rule(2, 0, api.Prefix{}), []int{2}}, {rule(1, 9, prefix(11, 0, 0, 0, 8)), rule(2, 0, p), nil},
		{rule(1, 0, prefix(255, 255, 255, 255, 32)), rule(2, 0, prefix(255, 255, 255, 255, 32)), []int{2}},
		{rule(1, 1, prefix(255, 255, 255, 255, 32)), rule(2, 0, prefix(255, 255, 255, 254, 31)), nil},
		{rule(1, 1, prefix(0, 0, 0, 0, 32)), rule(2, 0, prefix(0, 0, 0, 0, 32)), []int{2}},
	} {
		hidden(t, made(t, c.a), []int{}...)
		hidden(t, made(t, c.a, c.b), c.want...)
	}
}

// P11.2: hidden by several together; where one is missing, be it of one address, it isn't.
func TestHiddenBySeveral(t *testing.T) {
	l := []api.Rule{
		rule(10, 0, api.Prefix{}), rule(1, 0, prefix(0, 0, 0, 0, 1)), rule(2, 3, prefix(128, 0, 0, 0, 2)), rule(3, 0, prefix(192, 0, 0, 0, 3)),
		rule(4, 1, prefix(224, 0, 0, 0, 3)), rule(5, 0, prefix(64, 0, 0, 0, 4)), rule(6, 0, prefix(255, 255, 255, 255, 32)),
	}
	hidden(t, made(t, l...), 6, 10)
	for i := 1; i <= 4; i++ {
		want := []int{6}
		if i == 4 {
			want = nil
		}
		hidden(t, made(t, slices.Delete(slices.Clone(l), i, i+1)...), want...)
	}
	for _, whole := range []api.Prefix{{}, prefix(255, 0, 0, 0, 8), prefix(10, 0, 0, 0, 8), prefix(0, 0, 0, 0, 8)} {
		// Of each bit the half that doesn't go on to the address, and at the end that address alone.
		for _, a := range []uint32{whole.Addr, whole.Addr | 0xa5a5a5, whole.Addr | 1<<(32-whole.Bits-1) - 1} {
			x := made(t, rule(100, 0, whole))
			for n := whole.Bits; n < 32; n++ {
				side := (a ^ 1<<(31-n)) >> (31 - n) << (31 - n)
				if e := x.Add(rule(n, 0, api.Prefix{Addr: side, Bits: n + 1})); e != api.OK {
					t.Fatal(e)
				}
				hidden(t, x)
			}
			if e := x.Add(rule(99, 0, api.Prefix{Addr: a, Bits: 32})); e != api.OK {
				t.Fatal(e)
			}
			hidden(t, x, 100)
			drop(t, x, 99)
			if e := x.Add(rule(99, -1, api.Prefix{Addr: a, Bits: 32})); e != api.OK {
				t.Fatal(e)
			}
			// Asked behind the whole one it hides nothing, and is hidden itself.
			hidden(t, x, 99)
			best(t, x, a, 100)
		}
	}
}

// P11.2: no such rule is hidden.
func TestHiddenOfNone(t *testing.T) {
	x := made(t, rule(1, 1, api.Prefix{}), rule(2, 0, api.Prefix{}))
	for _, id := range []int{0, 3, -1, math.MinInt, math.MaxInt, 1<<32 + 2} {
		if x.Hidden(id) {
			t.Errorf("Hidden(%d)", id)
		}
	}
	hidden(t, x, 2)
	drop(t, x, 2)
	if x.Hidden(2) {
		t.Error("hidden, though it is gone")
	}
}

// R3: what is handed out is for him who asked.
func TestApart(t *testing.T) {
	l := []api.Rule{rule(1, 3, prefix(10, 0, 0, 0, 8)), rule(2, 2, prefix(10, 1, 0, 0, 16))}
	x, y := made(t, l...), table.New()
	for _, ask := range []func() []api.Rule{x.Rules, func() []api.Rule { return x.Meeting(l[0].Dst) }} {
		clear(ask())
		same(t, "again", ask(), l)
	}
	same(t, "another one", y.Rules(), nil)
	same(t, "another one", y.Meeting(api.Prefix{}), nil)
}
