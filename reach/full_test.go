package reach_test

import (
	"testing"

	"crossbuck/api"
	"crossbuck/bdd"
	"crossbuck/filter"
	"crossbuck/reach"
	"crossbuck/step"
)

// nets are some with rules and entries of all kinds, and some in which the last thing that needs room is one that isn't told by itself.
func nets(t *testing.T) map[string]*step.Net {
	t.Helper()
	web := filter.All()
	web.Proto, web.DPort = 6, api.Range{Low: 80, High: 90}
	ten, one, two := prefix(10, 0, 0, 0, 8), prefix(10, 1, 0, 0, 16), prefix(10, 2, 0, 0, 16)
	mixed := line(3)
	mixed.ACEs = []api.ACE{{Dev: 0, Port: 1, F: web}, {Dev: 2, Port: 0, In: true, F: goes(one)}}
	// Device 0 leads to 1, 2 and 4, each of these to 3, and 3 to 1.
	star := api.Topo{Ports: []int{3, 3, 2, 6, 2}, Links: []api.Link{{Dev: 0, Port: 0, Peer: 1, PeerPort: 0}, {Dev: 0, Port: 1, Peer: 2, PeerPort: 0}, {Dev: 0, Port: 2, Peer: 4, PeerPort: 0},
		{Dev: 1, Port: 1, Peer: 3, PeerPort: 0}, {Dev: 2, Port: 1, Peer: 3, PeerPort: 1}, {Dev: 4, Port: 1, Peer: 3, PeerPort: 2}, {Dev: 3, Port: 3, Peer: 1, PeerPort: 2}}}
	spread := []api.Rule{{ID: 1, Dst: ten, Out: 0}, {ID: 2, Dst: one, Out: 1}, {ID: 3, Dst: two, Out: 2}, {ID: 4, Dev: 1, Out: 1}, {ID: 5, Dev: 2, Out: 1}, {ID: 6, Dev: 4, Out: 1}, {ID: 7, Dev: 3, Out: 3}}
	loops := api.Topo{Ports: []int{2, 3, 3}, Links: []api.Link{{Dev: 0, Port: 0, Peer: 1, PeerPort: 0}, {Dev: 0, Port: 1, Peer: 2, PeerPort: 0}, {Dev: 1, Port: 1, Peer: 1, PeerPort: 2}, {Dev: 2, Port: 1, Peer: 2, PeerPort: 2}}}
	later := api.Topo{Ports: []int{2, 2, 4}, Links: []api.Link{{Dev: 0, Port: 0, Peer: 2, PeerPort: 0}, {Dev: 0, Port: 1, Peer: 1, PeerPort: 0}, {Dev: 1, Port: 1, Peer: 2, PeerPort: 1}}}
	return map[string]*step.Net{
		"mixed": made(t, mixed,
			api.Rule{ID: 1, Dev: 0, Dst: ten, Out: 1},
			api.Rule{ID: 2, Dev: 0, Dst: two, Out: api.Drop},
			api.Rule{ID: 3, Dev: 1, Dst: prefix(8, 0, 0, 0, 5), Out: 1},
			api.Rule{ID: 4, Dev: 2, Dst: prefix(10, 64, 0, 0, 10), Out: 2},
			api.Rule{ID: 5, Dev: 2, Dst: prefix(10, 32, 0, 0, 11), Out: 0},
		),
		"some loop where others come first": made(t, star, spread...),
		"two loops":                         made(t, loops, api.Rule{ID: 1, Dst: one, Out: 0}, api.Rule{ID: 2, Dst: two, Out: 1}, api.Rule{ID: 3, Dev: 1, Out: 1}, api.Rule{ID: 4, Dev: 2, Out: 1}),
		"some come later":                   made(t, later, api.Rule{ID: 1, Dst: one, Out: 0}, api.Rule{ID: 2, Dst: two, Out: 1}, api.Rule{ID: 3, Dev: 1, Out: 1}, api.Rule{ID: 4, Dev: 2, Dst: one, Out: 2}, api.Rule{ID: 5, Dev: 2, Dst: two, Out: 3}),
	}
}

// Errors: arenas that are just full, and short by each number of nodes: none of From's is new then, and nothing is answered.
func TestJustFullAndShort(t *testing.T) {
	for name, n := range nets(t) {
		for dev := range 3 {
			for place := range 8 {
				wide := arena(t, 10000)
				f := sets(t, wide)[place]
				g := of(t, wide, n, bdd.True)
				least := wide.Len()
				want := from(t, wide, g, dev, f)
				for most := least; most <= wide.Len(); most++ {
					a := arena(t, most)
					sets(t, a)
					of(t, a, n, bdd.True)
					for range 2 {
						if most < wide.Len() {
							refused(t, api.ErrFull, a, g, dev, f)
						} else if got, e := reach.From(a, g, dev, f); e != api.OK || !equal(got, want) || a.Len() != most {
							t.Errorf("just full: %v, %d, want %v", got, e, want)
						}
					}
				}
			}
		}
		if t.Failed() {
			t.Fatal(name)
		}
	}
}

// Errors: where all but one set that the answer needs is there, that one is asked for room, too, whichever it is.
func TestShortOfOneSet(t *testing.T) {
	ten := prefix(10, 0, 0, 0, 8)
	top := api.Topo{Ports: []int{2, 1}, Links: []api.Link{{Dev: 0, Port: 1, Peer: 1, PeerPort: 0}}}
	denied := top
	denied.ACEs = []api.ACE{{Dev: 0, Port: 0, F: goes(ten)}}
	for _, x := range []struct {
		name string
		net  *step.Net
	}{
		{"Hole", made(t, top, api.Rule{ID: 1, Dst: ten, Out: api.Drop})},
		{"Drop", made(t, top, api.Rule{ID: 1, Dst: ten, Out: api.Drop})},
		{"Denied", made(t, denied, api.Rule{ID: 1, Dst: ten, Out: 0})},
		{"Left", made(t, top, api.Rule{ID: 1, Dst: ten, Out: 0})},
		{"At", made(t, top, api.Rule{ID: 1, Dst: ten, Out: 1})},
	} {
		t.Run(x.name, func(t *testing.T) {
			least := 0
			for _, most := range []int{10000, 0} {
				a := arena(t, max(most, least))
				g := of(t, a, x.net, bdd.True)
				f := set(t)(a.Cube(bdd.Lit{Var: 5}, bdd.Lit{Var: 40, On: true}))
				// What goes to 10/8 is short, but for the first net, of which the others are.
				kind := bdd.Diff
				if x.name == "Hole" {
					kind = bdd.And
				}
				set(t)(a.Join(kind, f, to(t, a, ten)))
				if least == 0 {
					least = a.Len()
					from(t, a, g, 0, f)
					if a.Len() == least {
						t.Error("nothing is short")
					}
				} else {
					refused(t, api.ErrFull, a, g, 0, f)
				}
			}
		})
	}
}
