package stripe_test

import (
	"math"
	"slices"
	"testing"

	"crossbuck/api"
	"crossbuck/bdd"
	"crossbuck/hdr"
	"crossbuck/stripe"
)

// far are numbers that are no set, no kind, no bit and no lock anywhere.
var far = []int{-1, -2, -104, 1 << 18, 1<<18 + 1, 1 << 32, 1<<32 + 1, -1 << 32, math.MinInt, math.MaxInt}

// table is one with room for so many nodes.
func table(t *testing.T, most int) *stripe.Table {
	t.Helper()
	x, e := stripe.New(most)
	if e != api.OK || x == nil {
		t.Fatalf("New(%d) = %v, %d", most, x, e)
	}
	return x
}

// arena is layer 6's, to hold a table against.
func arena(t *testing.T, most int) *bdd.Arena {
	t.Helper()
	a, e := bdd.New(most)
	if e != api.OK {
		t.Fatalf("bdd.New(%d): %d", most, e)
	}
	return a
}

// sure is the set that a call answers, which must be OK.
func sure(t *testing.T) func(f int, e api.Errno) int {
	return func(f int, e api.Errno) int {
		t.Helper()
		if e != api.OK {
			t.Fatalf("error %d, want OK", e)
		}
		return f
	}
}

// refused says that a call must answer that error, and nothing else.
func refused(t *testing.T, want api.Errno) func(f int, e api.Errno) {
	return func(f int, e api.Errno) {
		t.Helper()
		if f != 0 || e != want {
			t.Errorf("answer %d, %d, want 0, %d", f, e, want)
		}
	}
}

// with is the header that has just these bits.
func with(bits ...int) api.Header {
	h := api.Header{}
	for _, i := range bits {
		h = hdr.With(h, i, true)
	}
	return h
}

// loads are how many nodes each lock has.
func loads(x *stripe.Table) []int {
	var out []int
	for i := range stripe.Stripes {
		out = append(out, x.Load(i))
	}
	return out
}

// sum is how many nodes all locks have.
func sum(x *stripe.Table) int {
	all := 0
	for _, n := range loads(x) {
		all += n
	}
	return all
}

// P9.1: the least and the greatest room, and one beyond.
func TestNewRoom(t *testing.T) {
	for _, most := range []int{2, 3, 100, 1024, 262143, 262144} {
		x := table(t, most)
		if x.Len() != 2 || !x.Has(0) || !x.Has(1) || x.Has(2) || sum(x) != 0 {
			t.Errorf("New(%d): Len %d, Has %v %v %v, loads %v", most, x.Len(), x.Has(0), x.Has(1), x.Has(2), loads(x))
		}
		if h := with(7); x.In(bdd.False, h) || !x.In(bdd.True, h) || x.In(2, h) {
			t.Errorf("New(%d): In %v %v %v", most, x.In(0, h), x.In(1, h), x.In(2, h))
		}
	}
	for _, most := range []int{1, 0, -1, -2, 262145, 1 << 32, 1<<32 + 2, math.MinInt, math.MaxInt} {
		if x, e := stripe.New(most); x != nil || e != api.ErrArg {
			t.Errorf("New(%d) = %v, %d", most, x, e)
		}
	}
}

// P9.1: two tables have nothing in common.
func TestTablesApart(t *testing.T) {
	x, y := table(t, 3), table(t, 3)
	sure(t)(x.Worker(1).Var(5, true))
	if y.Len() != 2 || y.Has(2) || sum(y) != 0 {
		t.Errorf("another table has %d nodes, loads %v", y.Len(), loads(y))
	}
	sure(t)(y.Worker(1).Var(7, true))
	if !x.In(2, with(5)) || x.In(2, with(7)) || y.In(2, with(5)) || !y.In(2, with(7)) {
		t.Error("a table has another one's node")
	}
}

// P9.1: reckoned by hand (by another program) as the chapter says it.
func TestStripe(t *testing.T) {
	if stripe.Stripes != 16 {
		t.Errorf("Stripes = %d", stripe.Stripes)
	}
	for _, c := range []struct{ level, low, high, want int }{
		{0, 0, 1, 0}, {0, 1, 0, 12}, {1, 0, 1, 15}, {103, 0, 1, 4}, {103, 1, 0, 8}, {3, 2, 5, 5},
		{50, 262143, 262142, 7}, {103, 262142, 262143, 15}, {0, 2, 3, 6}, {64, 1, 262143, 9}, {7, 100, 0, 5}, {31, 12345, 54321, 0},
	} {
		if got := stripe.Stripe(c.level, c.low, c.high); got != c.want {
			t.Errorf("Stripe(%d, %d, %d) = %d, want %d", c.level, c.low, c.high, got, c.want)
		}
	}
}

// R1: whatever Stripe is handed, it answers one of the locks.
func TestStripeOfAnything(t *testing.T) {
	for _, i := range append([]int{0, 1, 103, 104}, far...) {
		for _, f := range append([]int{0, 1, 2}, far...) {
			for _, g := range append([]int{0, 1, 2}, far...) {
				if s := stripe.Stripe(i, f, g); s < 0 || s >= 16 {
					t.Errorf("Stripe(%d, %d, %d) = %d", i, f, g, s)
				}
			}
		}
	}
}

// P9.1: each new node is counted at its own lock, and what is there isn't counted again.
func TestLoad(t *testing.T) {
	x := table(t, 1000)
	w := x.Worker(10)
	want := make([]int, stripe.Stripes)
	for i := range api.Vars {
		for _, low := range []int{bdd.False, bdd.True} {
			sure(t)(w.Var(i, low == bdd.False))
			sure(t)(w.Var(i, low == bdd.False))
			want[stripe.Stripe(i, low, 1-low)]++
			if got := loads(x); !slices.Equal(got, want) || sum(x) != x.Len()-2 {
				t.Fatalf("behind bit %d: loads %v, want %v, Len %d", i, got, want, x.Len())
			}
		}
	}
	for _, i := range append([]int{16, 17, 32}, far...) {
		if x.Load(i) != 0 {
			t.Errorf("Load(%d) = %d", i, x.Load(i))
		}
	}
}

// P9.1: Has and In of numbers up to the last set, and of others.
func TestHasAndIn(t *testing.T) {
	x := table(t, 10)
	w := x.Worker(1)
	on, off := sure(t)(w.Var(0, true)), sure(t)(w.Var(103, false))
	both := sure(t)(w.Join(bdd.And, on, off))
	for f := range 5 {
		if !x.Has(f) {
			t.Errorf("Has(%d) is false", f)
		}
	}
	for _, c := range []struct {
		f    int
		h    api.Header
		want bool
	}{
		{on, with(0), true}, {on, with(0, 103), true}, {on, with(1, 103), false}, {on, with(), false},
		{off, with(), true}, {off, with(0), true}, {off, with(103), false},
		{both, with(0), true}, {both, with(0, 103), false}, {both, with(), false}, {both, with(0, 50, 102), true},
	} {
		if x.In(c.f, c.h) != c.want {
			t.Errorf("In(%d, %s) is not %v", c.f, hdr.Print(c.h), c.want)
		}
	}
	for _, f := range append([]int{5, 6, 9, 10}, far...) {
		if x.Has(f) || x.In(f, with(0)) || x.In(f, with()) {
			t.Errorf("Has(%d), In(%d) = %v, %v, %v", f, f, x.Has(f), x.In(f, with(0)), x.In(f, with()))
		}
	}
}

// R1: each call on a nil table and on a nil worker.
func TestNil(t *testing.T) {
	var x *stripe.Table
	var w *stripe.Worker
	if x.Len() != 0 || x.Worker(10) != nil || x.Worker(0) != nil || w.Hits() != 0 {
		t.Errorf("Len %d, Worker %v, Hits %d", x.Len(), x.Worker(10), w.Hits())
	}
	no := refused(t, api.ErrNil)
	for _, f := range append([]int{0, 1, 2, 104}, far...) {
		if x.Load(f) != 0 || x.Has(f) || x.In(f, api.Header{}) {
			t.Errorf("Load(%d), Has, In = %d, %v, %v", f, x.Load(f), x.Has(f), x.In(f, api.Header{}))
		}
		no(w.Var(f, true))
		no(w.Var(f, false))
		no(w.Join(f, f, f))
		no(w.Join(bdd.And, f, 0))
		no(x.Worker(f).Join(bdd.Or, 0, f))
	}
}

// R1: tables that New didn't make, and workers that no table made.
func TestZeroObjects(t *testing.T) {
	x, lone := &stripe.Table{}, &stripe.Worker{}
	w := x.Worker(3)
	for _, f := range append([]int{0, 1, 2, 103}, far...) {
		x.Len()
		x.Load(f)
		x.Has(f)
		x.In(f, api.Header{})
		for _, v := range []*stripe.Worker{w, lone} {
			v.Var(f, true)
			v.Join(bdd.Or, f, f)
			v.Join(f, 0, 1)
			v.Hits()
		}
	}
}
