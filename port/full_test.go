package port_test

import (
	"reflect"
	"testing"

	"crossbuck/api"
	"crossbuck/bdd"
	"crossbuck/port"
)

// call is one that makes nodes; what it answers is handed on as it is.
type call struct {
	name string
	do   func(a *bdd.Arena) (any, api.Errno)
}

// halves are sets, made ahead, of which each call takes what it needs: False, True, Var(0), its Not, Var(40).
func halves(t *testing.T, most int) *bdd.Arena {
	t.Helper()
	a := arena(t, most)
	high := set(t)(a.Var(0))
	set(t)(a.Not(high))
	set(t)(a.Var(40))
	return a
}

// calls are some of each kind, in an arena that has halves.
func calls(t *testing.T) []call {
	ten, one := prefix(10, 0, 0, 0, 8), prefix(10, 1, 0, 0, 16)
	x := rules(t, api.Rule{ID: 1, Dst: ten, Out: 1}, api.Rule{ID: 2, Dst: one, Out: api.Drop}, api.Rule{ID: 3, Dst: prefix(128, 0, 0, 0, 1), Out: 1})
	f := api.Filter{Dst: one, Proto: 6, SPort: api.Range{High: 1023}, DPort: api.Range{Low: 80, High: 80}}
	top := api.Topo{Ports: []int{0, 2}, ACEs: []api.ACE{allow(true, true, f), allow(true, false, goes(ten)), allow(true, true, f)}}
	of := func(ports, region int) func(a *bdd.Arena) (any, api.Errno) {
		return func(a *bdd.Arena) (any, api.Errno) { return port.Of(a, x, ports, region) }
	}
	return []call{
		{"Of all", of(2, bdd.True)},
		{"Of a half", of(8, 3)},
		{"Of what asks for Src", of(2, 4)},
		{"Delta", func(a *bdd.Arena) (any, api.Errno) {
			return port.Delta(a, port.Sets{Out: []int{2, 3}, Drop: 4}, port.Sets{Out: []int{4, 3}, Drop: 3, Hole: 2})
		}},
		{"Delta of one place", func(a *bdd.Arena) (any, api.Errno) {
			return port.Delta(a, port.Sets{Hole: 4}, port.Sets{Hole: 2})
		}},
		{"Permit", func(a *bdd.Arena) (any, api.Errno) { return port.Permit(a, top, 1, 1, true) }},
	}
}

// Errors: arenas that are just full, and short by each number of nodes: none of theirs is new then, and nothing is answered.
func TestJustFullAndShort(t *testing.T) {
	for _, c := range calls(t) {
		t.Run(c.name, func(t *testing.T) {
			wide := halves(t, 10000)
			least := wide.Len()
			want, e := c.do(wide)
			if e != api.OK || wide.Len() == least {
				t.Fatalf("%v, %d, %d nodes", want, e, wide.Len())
			}
			just := halves(t, wide.Len())
			for range 2 {
				if got, e := c.do(just); e != api.OK || !reflect.DeepEqual(got, want) {
					t.Errorf("just full: %v, %d, want %v", got, e, want)
				}
			}
			for most := least; most < wide.Len(); most++ {
				short := halves(t, most)
				for range 2 {
					got, e := c.do(short)
					if s, ok := got.(port.Sets); ok && !isZero(s) || !ok && got != 0 || e != api.ErrFull {
						t.Errorf("room for %d: %v, %d", most, got, e)
					}
					if short.Len() != least {
						t.Errorf("room for %d: %d nodes, %d ahead", most, short.Len(), least)
					}
				}
			}
		})
	}
}

// Errors: of a number that is no set's and a want of room the first one is told, as there is nothing that would need room.
func TestDeltaOfNoSetInNoRoom(t *testing.T) {
	a := halves(t, 5)
	x, y := port.Sets{Out: []int{2}, Hole: 5}, port.Sets{Out: []int{4}}
	if f, e := port.Delta(a, x, y); f != 0 || e != api.ErrArg || a.Len() != 5 {
		t.Errorf("Delta = %d, %d", f, e)
	}
	x.Hole = 4
	if f, e := port.Delta(a, x, y); f != 0 || e != api.ErrFull || a.Len() != 5 {
		t.Errorf("Delta = %d, %d", f, e)
	}
}
