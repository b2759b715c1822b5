package trie_test

import (
	"math"
	"slices"
	"testing"

	"crossbuck/api"
	"crossbuck/trie"
)

// prefix is the one of four numbers, and so many bits.
func prefix(a, b, c, d uint32, n int) api.Prefix {
	return api.Prefix{Addr: a<<24 | b<<16 | c<<8 | d, Bits: n}
}

// wrongPrefixes are some that may not be.
func wrongPrefixes() []api.Prefix {
	l := []api.Prefix{
		{Bits: -1}, {Bits: 33}, {Bits: 64}, {Bits: math.MinInt}, {Bits: math.MaxInt}, {Bits: -1 << 32}, {Bits: 1 << 32},
		{Addr: math.MaxUint32, Bits: 33}, {Addr: math.MaxUint32, Bits: -1}, {Addr: 1}, {Addr: 1 << 31}, {Addr: math.MaxUint32, Bits: 31},
		prefix(10, 0, 0, 1, 8), prefix(10, 128, 0, 0, 8),
	}
	for n := range 32 {
		l = append(l, api.Prefix{Addr: 1 << (31 - n), Bits: n}, api.Prefix{Addr: 1, Bits: n})
	}
	return l
}

// tree is one of these entries, each of which must be new.
func tree(t *testing.T, l ...trie.Entry) *trie.Tree {
	t.Helper()
	x := &trie.Tree{}
	for _, y := range l {
		if e := x.Add(y.P, y.V); e != api.OK {
			t.Fatalf("Add(%v, %d) = %d", y.P, y.V, e)
		}
	}
	return x
}

// drop takes an entry away, which must be there.
func drop(t *testing.T, x *trie.Tree, p api.Prefix, v int) {
	t.Helper()
	if e := x.Drop(p, v); e != api.OK {
		t.Fatalf("Drop(%v, %d) = %d", p, v, e)
	}
}

// same says that a list must be that one.
func same(t *testing.T, what string, got, want []trie.Entry) {
	t.Helper()
	if !slices.Equal(got, want) {
		t.Errorf("%s: %v, want %v", what, got, want)
	}
}

// sized says how many values and nodes a tree must have.
func sized(t *testing.T, x *trie.Tree, values, nodes int) {
	t.Helper()
	if x.Len() != values || x.Size() != nodes {
		t.Errorf("Len %d, Size %d, want %d, %d", x.Len(), x.Size(), values, nodes)
	}
}

// The chapter's example.
func TestExample(t *testing.T) {
	wide, narrow := trie.Entry{P: prefix(10, 0, 0, 0, 8), V: 1}, trie.Entry{P: prefix(10, 1, 0, 0, 16), V: 2}
	x := tree(t, wide, narrow)
	same(t, "Of 10.1.2.3", x.Of(prefix(10, 1, 2, 3, 0).Addr), []trie.Entry{wide, narrow})
	same(t, "Of 10.2.0.0", x.Of(prefix(10, 2, 0, 0, 0).Addr), []trie.Entry{wide})
	same(t, "Of 11.0.0.0", x.Of(prefix(11, 0, 0, 0, 0).Addr), nil)
	same(t, "All", x.All(), []trie.Entry{wide, narrow})
	sized(t, x, 2, 17)
}

// P10.1 to P10.3: a zero tree is empty, and one that has become empty is as it was.
func TestEmpty(t *testing.T) {
	emptied := tree(t, trie.Entry{P: prefix(10, 1, 0, 0, 16), V: 7}, trie.Entry{V: 0})
	drop(t, emptied, prefix(10, 1, 0, 0, 16), 7)
	drop(t, emptied, api.Prefix{}, 0)
	for _, x := range []*trie.Tree{{}, emptied} {
		sized(t, x, 0, 1)
		same(t, "All", x.All(), nil)
		for _, a := range []uint32{0, 1, 1 << 31, math.MaxUint32, prefix(10, 1, 0, 0, 0).Addr} {
			same(t, "Of", x.Of(a), nil)
		}
		same(t, "Meeting", x.Meeting(api.Prefix{}), nil)
		same(t, "Meeting", x.Meeting(prefix(10, 1, 0, 0, 16)), nil)
		if e := x.Drop(api.Prefix{}, 0); e != api.ErrNone {
			t.Errorf("Drop = %d", e)
		}
		sized(t, x, 0, 1)
	}
}

// R1, R2: a nil tree, whatever else is wrong.
func TestNil(t *testing.T) {
	var x *trie.Tree
	for _, p := range append(wrongPrefixes(), api.Prefix{}, prefix(10, 0, 0, 0, 8)) {
		if e := x.Add(p, 1); e != api.ErrNil {
			t.Errorf("Add(%v) = %d", p, e)
		}
		if e := x.Drop(p, 1); e != api.ErrNil {
			t.Errorf("Drop(%v) = %d", p, e)
		}
		same(t, "Meeting", x.Meeting(p), nil)
		same(t, "Of", x.Of(p.Addr), nil)
	}
	same(t, "All", x.All(), nil)
	if x.Len() != 0 || x.Size() != 0 {
		t.Errorf("Len %d, Size %d", x.Len(), x.Size())
	}
}

// R1, R2: a prefix that may not be, whether the value is there or not; nothing is changed.
func TestWrongPrefixes(t *testing.T) {
	l := []trie.Entry{{P: api.Prefix{}, V: 1}, {P: prefix(10, 0, 0, 0, 8), V: 1}, {P: prefix(10, 0, 0, 1, 32), V: 1}}
	x := tree(t, l...)
	nodes := x.Size()
	for _, p := range wrongPrefixes() {
		for _, v := range []int{1, 2} {
			if e := x.Add(p, v); e != api.ErrPrefix {
				t.Errorf("Add(%v, %d) = %d", p, v, e)
			}
			if e := x.Drop(p, v); e != api.ErrPrefix {
				t.Errorf("Drop(%v, %d) = %d", p, v, e)
			}
		}
		same(t, "Meeting", x.Meeting(p), nil)
		same(t, "All", x.All(), l)
		sized(t, x, 3, nodes)
	}
}

// P10.1: a value that is there already, or isn't; nothing is changed.
func TestThereAndNone(t *testing.T) {
	l := []trie.Entry{{P: prefix(10, 0, 0, 0, 8), V: 1}, {P: prefix(10, 0, 0, 0, 16), V: 2}}
	x := tree(t, l...)
	for _, y := range l {
		if e := x.Add(y.P, y.V); e != api.ErrThere {
			t.Errorf("Add(%v, %d) = %d", y.P, y.V, e)
		}
	}
	for _, y := range []trie.Entry{
		{P: l[0].P, V: 2}, {P: l[1].P, V: 1}, {P: l[0].P, V: -1}, {P: l[0].P, V: 0}, // other values
		{P: api.Prefix{}, V: 1}, {P: prefix(10, 0, 0, 0, 7), V: 1}, {P: prefix(10, 0, 0, 0, 12), V: 2}, // on the way
		{P: prefix(10, 0, 0, 0, 17), V: 2}, {P: prefix(10, 0, 0, 0, 32), V: 2}, {P: prefix(11, 0, 0, 0, 8), V: 1}, // off it
	} {
		if e := x.Drop(y.P, y.V); e != api.ErrNone {
			t.Errorf("Drop(%v, %d) = %d", y.P, y.V, e)
		}
	}
	same(t, "All", x.All(), l)
	sized(t, x, 2, 17)
	drop(t, x, l[0].P, 1)
	if e := x.Drop(l[0].P, 1); e != api.ErrNone {
		t.Errorf("Drop again = %d", e)
	}
	same(t, "All", x.All(), l[1:])
	sized(t, x, 1, 17)
	if e := x.Add(l[0].P, 1); e != api.OK {
		t.Errorf("Add again = %d", e)
	}
	same(t, "All", x.All(), l)
}

// P10.1, P10.2: any values may be, several under one prefix, and one under several; they rise.
func TestValues(t *testing.T) {
	p, q := prefix(192, 0, 0, 0, 8), prefix(192, 168, 0, 0, 16)
	x := tree(t, trie.Entry{P: q, V: 3})
	for _, v := range []int{5, math.MaxInt, -7, 0, math.MinInt, 3, 1 << 32, -1} {
		if e := x.Add(p, v); e != api.OK {
			t.Fatalf("Add(%d) = %d", v, e)
		}
	}
	var want []trie.Entry
	for _, v := range []int{math.MinInt, -7, -1, 0, 3, 5, 1 << 32, math.MaxInt} {
		want = append(want, trie.Entry{P: p, V: v})
	}
	want = append(want, trie.Entry{P: q, V: 3})
	same(t, "All", x.All(), want)
	same(t, "Of", x.Of(q.Addr), want)
	same(t, "Meeting", x.Meeting(q), want)
	sized(t, x, 9, 17)
	drop(t, x, p, 3)
	same(t, "All", x.All(), slices.Delete(slices.Clone(want), 4, 5))
}

// P10.1: rising addresses, then rising bits, then values, in whatever order they came.
func TestAll(t *testing.T) {
	want := []trie.Entry{
		{P: api.Prefix{}, V: 9}, {P: prefix(0, 0, 0, 0, 1), V: 3}, {P: prefix(0, 0, 0, 0, 32), V: 1}, {P: prefix(0, 0, 0, 1, 32), V: 0},
		{P: prefix(10, 0, 0, 0, 7), V: 4}, {P: prefix(10, 0, 0, 0, 8), V: 2}, {P: prefix(10, 0, 0, 0, 8), V: 5}, {P: prefix(10, 0, 0, 0, 9), V: 1},
		{P: prefix(10, 1, 0, 0, 16), V: 0}, {P: prefix(10, 128, 0, 0, 9), V: -1}, {P: prefix(11, 0, 0, 0, 8), V: -5},
		{P: prefix(128, 0, 0, 0, 1), V: 0}, {P: prefix(128, 0, 0, 0, 2), V: 0}, {P: prefix(192, 0, 0, 0, 2), V: 0}, {P: prefix(255, 255, 255, 255, 32), V: 0},
	}
	for i := range want {
		turned := append(slices.Clone(want[i:]), want[:i]...)
		same(t, "All", tree(t, turned...).All(), want)
		slices.Reverse(turned)
		same(t, "All", tree(t, turned...).All(), want)
	}
}

// P10.2: of each address those on the way to it, the least and the greatest one too.
func TestOf(t *testing.T) {
	l := []trie.Entry{
		{P: api.Prefix{}, V: 8}, {P: prefix(128, 0, 0, 0, 1), V: 7}, {P: prefix(255, 0, 0, 0, 8), V: 6},
		{P: prefix(255, 255, 255, 254, 31), V: 5}, {P: prefix(255, 255, 255, 255, 32), V: 4}, {P: prefix(255, 255, 255, 255, 32), V: 9},
		{P: prefix(255, 255, 255, 254, 32), V: 3}, {P: prefix(0, 0, 0, 0, 1), V: 2}, {P: prefix(0, 0, 0, 0, 32), V: 1},
	}
	x := tree(t, l...)
	for _, c := range []struct {
		a    uint32
		want []int
	}{
		{0, []int{8, 2, 1}}, {1, []int{8, 2}}, {math.MaxInt32, []int{8, 2}}, {1 << 31, []int{8, 7}},
		{prefix(254, 255, 255, 255, 0).Addr, []int{8, 7}}, {prefix(255, 0, 0, 0, 0).Addr, []int{8, 7, 6}},
		{math.MaxUint32 - 2, []int{8, 7, 6}}, {math.MaxUint32 - 1, []int{8, 7, 6, 5, 3}}, {math.MaxUint32, []int{8, 7, 6, 5, 4, 9}},
	} {
		var got []int
		for _, y := range x.Of(c.a) {
			got = append(got, y.V)
			if !slices.Contains(l, y) {
				t.Errorf("Of(%d) has %v", c.a, y)
			}
		}
		if !slices.Equal(got, c.want) {
			t.Errorf("Of(%d) = %v, want %v", c.a, got, c.want)
		}
	}
}

// P10.2: those that a prefix lies in, itself, and those that lie in it; it need not be in the tree.
func TestMeeting(t *testing.T) {
	l := []trie.Entry{
		{P: api.Prefix{}, V: 1}, {P: prefix(10, 0, 0, 0, 8), V: 2}, {P: prefix(10, 0, 0, 0, 16), V: 3}, {P: prefix(10, 0, 0, 0, 32), V: 4},
		{P: prefix(10, 1, 0, 0, 16), V: 5}, {P: prefix(10, 128, 0, 0, 9), V: 6}, {P: prefix(11, 0, 0, 0, 8), V: 7},
	}
	x := tree(t, l...)
	for _, c := range []struct {
		p    api.Prefix
		want []trie.Entry
	}{
		{api.Prefix{}, l}, {prefix(10, 0, 0, 0, 7), l}, {prefix(10, 0, 0, 0, 8), l[:6]}, {prefix(10, 0, 0, 0, 9), l[:5]},
		{prefix(10, 0, 0, 0, 16), l[:4]}, {prefix(10, 0, 0, 0, 24), l[:4]}, {prefix(10, 0, 0, 0, 32), l[:4]}, {prefix(10, 0, 0, 1, 32), l[:3]},
		{prefix(10, 0, 1, 0, 24), l[:3]}, {prefix(10, 0, 0, 0, 15), l[:5]}, {prefix(10, 2, 0, 0, 15), l[:2]}, {prefix(12, 0, 0, 0, 8), l[:1]},
		{prefix(128, 0, 0, 0, 1), l[:1]}, {prefix(255, 255, 255, 255, 32), l[:1]},
	} {
		same(t, "Meeting", x.Meeting(c.p), c.want)
	}
	drop(t, x, api.Prefix{}, 1)
	same(t, "Meeting", x.Meeting(prefix(128, 0, 0, 0, 1)), nil)
	same(t, "Meeting", x.Meeting(prefix(8, 0, 0, 0, 6)), l[1:])
}

// P10.3: the way to a prefix is counted, what several share once, and goes with the last value that it leads to.
func TestSize(t *testing.T) {
	x := &trie.Tree{}
	for n := range 33 {
		p := api.Prefix{Bits: n}
		sized(t, tree(t, trie.Entry{P: p, V: 1}), 1, n+1)
		if e := x.Add(p, n); e != api.OK {
			t.Fatal(e)
		}
		sized(t, x, n+1, n+1)
	}
	for _, c := range []struct {
		p           api.Prefix
		v, size     int
		afterwards  int
		description string
	}{
		{prefix(0, 0, 0, 1, 32), 1, 34, 33, "a second half"},
		{prefix(0, 0, 0, 0, 32), 99, 33, 33, "a second value"},
		{prefix(128, 0, 0, 0, 1), 0, 34, 33, "the other half"},
		{prefix(255, 255, 255, 255, 32), 0, 65, 33, "the other end"},
	} {
		if e := x.Add(c.p, c.v); e != api.OK || x.Size() != c.size {
			t.Errorf("%s: Add = %d, Size %d, want %d", c.description, e, x.Size(), c.size)
		}
		drop(t, x, c.p, c.v)
		if x.Size() != c.afterwards {
			t.Errorf("%s gone: Size %d, want %d", c.description, x.Size(), c.afterwards)
		}
	}
	for n := range 32 {
		drop(t, x, api.Prefix{Bits: n}, n)
		sized(t, x, 32-n, 33)
	}
	drop(t, x, api.Prefix{Bits: 32}, 32)
	sized(t, x, 0, 1)
}

// P10.3: what lies on the way to another value stays, and what has another value.
func TestSizeOfForks(t *testing.T) {
	deep, fork, side := prefix(10, 1, 2, 3, 32), prefix(10, 1, 0, 0, 16), prefix(10, 1, 128, 0, 18)
	x := tree(t, trie.Entry{P: deep, V: 1}, trie.Entry{P: fork, V: 1}, trie.Entry{P: side, V: 1}, trie.Entry{P: deep, V: 2})
	sized(t, x, 4, 35)
	drop(t, x, fork, 1)
	sized(t, x, 3, 35)
	drop(t, x, deep, 1)
	sized(t, x, 2, 35)
	drop(t, x, deep, 2)
	sized(t, x, 1, 19)
	same(t, "All", x.All(), []trie.Entry{{P: side, V: 1}})
	drop(t, x, side, 1)
	sized(t, x, 0, 1)
}

// R3: what is handed out is for him who asked, and two trees have nothing in common.
func TestApart(t *testing.T) {
	l := []trie.Entry{{P: prefix(10, 0, 0, 0, 8), V: 1}, {P: prefix(10, 0, 0, 0, 8), V: 2}}
	x, y := tree(t, l...), tree(t)
	for _, ask := range []func() []trie.Entry{x.All, func() []trie.Entry { return x.Of(l[0].P.Addr) }, func() []trie.Entry { return x.Meeting(l[0].P) }} {
		first := ask()
		clear(first)
		_ = append(first[:1], trie.Entry{V: 77})
		same(t, "again", ask(), l)
	}
	sized(t, y, 0, 1)
	same(t, "another one", y.All(), nil)
}
