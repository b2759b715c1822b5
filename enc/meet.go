package enc

import (
	"math/bits"

	"crossbuck/api"
	"crossbuck/bdd"
)

// maker makes a set in the arena that it was made for.
type maker func() (int, api.Errno)

// meet is what all sets have that are made; where there is no room, nothing that was made up to there stays.
func meet(a *bdd.Arena, makers ...maker) (int, api.Errno) {
	was, f := a.Len(), bdd.True
	for _, set := range makers {
		g, e := set()
		if e == api.OK {
			f, e = a.Join(bdd.And, f, g)
		}
		if e != api.OK {
			a.Cut(was)
			return 0, e
		}
	}
	return f, api.OK
}

// cube makes the set of the headers whose bits are so.
func cube(a *bdd.Arena, l []bdd.Lit) maker {
	return func() (int, api.Errno) { return a.Cube(l...) }
}

// common is how many bits of all ports of a range are the same, from the first on.
func common(r api.Range) int { return bits.LeadingZeros16(r.Low ^ r.High) }

// rest makes the set of what a range asks of a port behind the bits that all its ports have in common. It is True, if those are all that it asks.
func rest(a *bdd.Arena, field int, r api.Range) maker {
	n := portBits - common(r)
	return func() (int, api.Errno) {
		return meet(a, bound(a, field, r.Low, n, true), bound(a, field, r.High, n, false))
	}
}

// bound makes the set of the headers the last n bits of whose port are no less than those of a port (on), or no more than they (not on).
func bound(a *bdd.Arena, field int, port uint16, n int, on bool) maker {
	return func() (int, api.Errno) {
		f := bdd.True
		for i := range n {
			// A bit that the bound has so must be so, and what is behind be within; one that it hasn't, is enough by itself.
			kind := bdd.Or
			if (port>>i&1 == 1) == on {
				kind = bdd.And
			}
			// All are within already: asking for a bit would cost a node for nothing.
			if kind == bdd.Or && f == bdd.True {
				continue
			}
			bit, e := a.Cube(bdd.Lit{Var: field + portBits - 1 - i, On: on})
			if e != api.OK {
				return 0, e
			}
			if f, e = a.Join(kind, bit, f); e != api.OK {
				return 0, e
			}
		}
		return f, api.OK
	}
}
