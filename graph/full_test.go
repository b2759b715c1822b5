package graph_test

import (
	"reflect"
	"testing"

	"crossbuck/api"
	"crossbuck/bdd"
	"crossbuck/filter"
	"crossbuck/graph"
	"crossbuck/step"
)

// halves has Var(0), its Not, Var(40) and what goes to 10/8, made ahead.
func halves(t *testing.T, most int) *bdd.Arena {
	t.Helper()
	a := arena(t, most)
	set(t)(a.Not(set(t)(a.Var(0))))
	set(t)(a.Var(40))
	to(t, a, prefix(10, 0, 0, 0, 8))
	return a
}

// nets are some with rules and entries of all kinds, and some in which the last thing that needs room is what is told.
func nets(t *testing.T) map[string]*step.Net {
	t.Helper()
	web := filter.All()
	web.Proto, web.DPort = 6, api.Range{Low: 80, High: 90}
	ten, eleven := prefix(10, 0, 0, 0, 8), prefix(11, 0, 0, 0, 8)
	mixed, ends, there := line(3), line(2), line(2)
	mixed.ACEs = []api.ACE{{Dev: 0, Port: 1, F: web}, {Dev: 1, Port: 0, In: true, F: goes(prefix(10, 1, 0, 0, 16))}, {Dev: 2, Port: 2, Permit: true, F: web}, {Dev: 2, Port: 2, F: filter.All()}}
	ends.ACEs = []api.ACE{{Dev: 1, Port: 1, F: filter.All()}, {Dev: 1, Port: 2, F: filter.All()}}
	there.ACEs = []api.ACE{{Dev: 0, Port: 1, In: true, F: goes(eleven)}}
	return map[string]*step.Net{
		"mixed": made(t, mixed,
			api.Rule{ID: 1, Dev: 0, Dst: ten, Out: 1},
			api.Rule{ID: 2, Dev: 0, Dst: prefix(10, 2, 0, 0, 16), Out: api.Drop},
			api.Rule{ID: 3, Dev: 1, Dst: prefix(128, 0, 0, 0, 1), Out: 1},
			api.Rule{ID: 4, Dev: 2, Dst: eleven, Out: 2},
		),
		"two ports that deny":    made(t, ends, api.Rule{ID: 1, Dev: 1, Dst: ten, Out: 1}, api.Rule{ID: 2, Dev: 1, Dst: eleven, Out: 2}),
		"what the other end has": made(t, there, api.Rule{ID: 1, Dev: 1, Dst: ten, Out: 0}),
	}
}

// Errors: arenas that are just full, and short by each number of nodes: none of Of's is new then, and nothing is answered.
func TestJustFullAndShort(t *testing.T) {
	ten := halves(t, 100).Len() - 1
	for name, n := range nets(t) {
		t.Run(name, func(t *testing.T) {
			for _, region := range []int{bdd.True, 3, 4, ten} {
				wide := halves(t, 10000)
				least := wide.Len()
				want := of(t, wide, n, region)
				just := halves(t, wide.Len())
				for range 2 {
					if got, e := graph.Of(just, n, region); e != api.OK || !reflect.DeepEqual(got, want) || just.Len() != wide.Len() {
						t.Errorf("just full: %v, %d, want %v", got, e, want)
					}
				}
				for most := least; most < wide.Len(); most++ {
					short := halves(t, most)
					refused(t, api.ErrFull, short, n, region)
					refused(t, api.ErrFull, short, n, region)
				}
			}
		})
	}
}
