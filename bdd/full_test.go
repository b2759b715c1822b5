package bdd_test

import (
	"slices"
	"testing"

	"crossbuck/api"
	"crossbuck/bdd"
)

// call is one that makes nodes, of sets that base made ahead.
type call struct {
	name string
	do   func(a *bdd.Arena, base []int) (int, api.Errno)
}

// base are three sets with several nodes each.
func base(t *testing.T, a *bdd.Arena) []int {
	t.Helper()
	ok := sure(t)
	f := ok(a.Cube(bdd.Lit{Var: 0, On: true}, bdd.Lit{Var: 31}, bdd.Lit{Var: 64, On: true}, bdd.Lit{Var: 103, On: true}))
	g := ok(a.Cube(bdd.Lit{Var: 1}, bdd.Lit{Var: 32, On: true}, bdd.Lit{Var: 88, On: true}))
	h := ok(a.Cube(bdd.Lit{Var: 0}, bdd.Lit{Var: 50, On: true}, bdd.Lit{Var: 102}))
	return []int{f, g, h}
}

// calls are all that make nodes.
func calls() []call {
	out := []call{
		{"Cube", func(a *bdd.Arena, s []int) (int, api.Errno) {
			return a.Cube(bdd.Lit{Var: 7, On: true}, bdd.Lit{Var: 60}, bdd.Lit{Var: 64, On: true}, bdd.Lit{Var: 103, On: true})
		}},
		{"Var", func(a *bdd.Arena, s []int) (int, api.Errno) { return a.Var(77) }},
		{"Not", func(a *bdd.Arena, s []int) (int, api.Errno) { return a.Not(s[0]) }},
		{"Ite", func(a *bdd.Arena, s []int) (int, api.Errno) { return a.Ite(s[0], s[1], s[2]) }},
		{"Restrict", func(a *bdd.Arena, s []int) (int, api.Errno) { return a.Restrict(s[0], 64, true) }},
		{"Restrict of the last bit", func(a *bdd.Arena, s []int) (int, api.Errno) { return a.Restrict(s[0], 103, true) }},
	}
	for kind, name := range []string{"And", "Or", "Xor", "Diff"} {
		out = append(out, call{name, func(a *bdd.Arena, s []int) (int, api.Errno) { return a.Join(kind, s[0], s[1]) }})
	}
	return out
}

// P6.4: arenas that are just full, and one short; and the same call again once there is room.
func TestJustFullAndShort(t *testing.T) {
	for _, c := range calls() {
		t.Run(c.name, func(t *testing.T) {
			wide := arena(t, 1000)
			sets := base(t, wide)
			had := wide.Len()
			want := sure(t)(c.do(wide, sets))
			made := wide.Len() - had
			if made < 1 {
				t.Fatalf("it makes %d nodes", made)
			}
			just := arena(t, had+made)
			if f := sure(t)(c.do(just, base(t, just))); f != want || !slices.Equal(rows(just), rows(wide)) {
				t.Errorf("just full: %d, want %d: %v, want %v", f, want, rows(just), rows(wide))
			}
			for short := range made {
				full := arena(t, had+short)
				sets := base(t, full)
				refused(t, api.ErrFull)(c.do(full, sets))
				refused(t, api.ErrFull)(c.do(full, sets))
				if !slices.Equal(rows(full), rows(wide)[:had]) {
					t.Errorf("room for %d of %d: nodes %v", short, made, rows(full))
				}
			}
			again(t, c, had+made, want, rows(wide))
		})
	}
}

// again fills an arena up to each number that is too much, asks, and asks anew behind a Cut.
func again(t *testing.T, c call, most, want int, all []row) {
	t.Helper()
	a := arena(t, most)
	sets := base(t, a)
	had := a.Len()
	for a.Len() < most {
		// Bits that no call asks for, so that what is made here is no help to it.
		sure(t)(a.Cube(bdd.Lit{Var: 10 + a.Len() - had}))
		ahead := rows(a)
		refused(t, api.ErrFull)(c.do(a, sets))
		if !slices.Equal(rows(a), ahead) {
			t.Errorf("behind ErrFull: nodes %v, want %v", rows(a), ahead)
		}
	}
	a.Cut(had)
	if f := sure(t)(c.do(a, sets)); f != want || !slices.Equal(rows(a), all) {
		t.Errorf("once there is room: %d, want %d: %v, want %v", f, want, rows(a), all)
	}
	if f := sure(t)(c.do(a, sets)); a.Len() != most {
		t.Errorf("what is there was made anew: %d, Len %d", f, a.Len())
	}
}

// P6.4: in an arena that is full each call is OK whose nodes are there.
func TestFullButThere(t *testing.T) {
	ok := sure(t)
	a := arena(t, 6)
	x, y := ok(a.Var(1)), ok(a.Var(2))
	both := ok(a.Join(bdd.And, x, y))
	notY := ok(a.Not(y))
	if a.Len() != 6 {
		t.Fatalf("Len = %d", a.Len())
	}
	for i, p := range [][2]int{
		{ok(a.Var(1)), x},
		{ok(a.Cube()), bdd.True},
		{ok(a.Cube(bdd.Lit{Var: 1, On: true}, bdd.Lit{Var: 2, On: true})), both},
		{ok(a.Join(bdd.And, y, x)), both},
		{ok(a.Join(bdd.Or, x, both)), x},
		{ok(a.Join(bdd.Diff, both, y)), bdd.False},
		{ok(a.Join(bdd.Xor, y, notY)), bdd.True},
		{ok(a.Not(notY)), y},
		{ok(a.Ite(x, y, bdd.False)), both},
		{ok(a.Restrict(both, 1, true)), y},
		{ok(a.Restrict(both, 2, true)), x},
		{ok(a.Restrict(both, 2, false)), bdd.False},
	} {
		if p[0] != p[1] {
			t.Errorf("call %d: %d, want %d", i, p[0], p[1])
		}
	}
	for _, f := range []func() (int, api.Errno){
		func() (int, api.Errno) { return a.Var(3) },
		func() (int, api.Errno) { return a.Not(x) },
		func() (int, api.Errno) { return a.Join(bdd.Or, x, y) },
	} {
		refused(t, api.ErrFull)(f())
	}
}

// P6.1, P6.4: the greatest room, filled up to its last node: all sets of the last 1 to 17 bits, each one node more.
func TestGreatestRoom(t *testing.T) {
	a := arena(t, api.MaxNodes)
	next := 2
	for bits := 1; bits <= 17; bits++ {
		for n := range 1 << bits {
			f, e := a.Cube(last(bits, n)...)
			if f != next || e != api.OK {
				t.Fatalf("the set of %d bits %b = %d, %d, want %d", bits, n, f, e, next)
			}
			next++
		}
	}
	if a.Len() != 262144 || !a.Has(262143) || a.Has(262144) {
		t.Errorf("Len = %d", a.Len())
	}
	no := refused(t, api.ErrFull)
	no(a.Var(0))
	no(a.Cube(last(18, 0)...))
	no(a.Not(262143))
	no(a.Join(bdd.Or, 262142, 262140))
	refused(t, api.ErrArg)(a.Not(262144))
	if f := sure(t)(a.Cube(last(17, 1<<17-1)...)); f != 262143 {
		t.Errorf("the last set is %d", f)
	}
	if f := sure(t)(a.Join(bdd.And, 262143, 262142)); f != bdd.False || a.Len() != 262144 {
		t.Errorf("And = %d, Len %d", f, a.Len())
	}
	a.Cut(262143)
	if f := sure(t)(a.Var(0)); f != 262143 {
		t.Errorf("Var(0) behind Cut = %d", f)
	}
	no(a.Cube(last(17, 1<<17-1)...))
	a.Cut(0)
	wantRows(t, a)
}

// last are the last so many bits, as those of a number.
func last(bits, n int) []bdd.Lit {
	var out []bdd.Lit
	for i := range bits {
		out = append(out, bdd.Lit{Var: api.Vars - bits + i, On: n>>i&1 == 1})
	}
	return out
}
