package bdd

import "crossbuck/api"

// joining is the work of one join: pairs of sets come up by many ways, and each is joined once.
type joining struct {
	*Arena
	kind int
	done map[[2]int]int
}

// join is Join of sets and a kind that there are.
func (a *Arena) join(kind, f, g int) (int, api.Errno) {
	j := joining{a, kind, map[[2]int]int{}}
	return j.pair(f, g)
}

// pair joins two sets bit by bit. Each node that it makes on its way is one of the answer's, so it needs no room beside.
func (j *joining) pair(f, g int) (int, api.Errno) {
	if r, known := plain(j.kind, f, g); known {
		return r, api.OK
	}
	if r, known := j.done[[2]int{f, g}]; known {
		return r, api.OK
	}
	level := min(j.nodes[f].level, j.nodes[g].level)
	x, y := j.parts(f, level), j.parts(g, level)
	low, e := j.pair(x.low, y.low)
	if e != api.OK {
		return 0, e
	}
	high, e := j.pair(x.high, y.high)
	if e != api.OK {
		return 0, e
	}
	r, e := j.number(node{level, low, high})
	if e != api.OK {
		return 0, e
	}
	j.done[[2]int{f, g}] = r
	return r, api.OK
}

// parts are a set's for a bit that is its first one, or ahead of that: there it is both of them itself.
func (a *Arena) parts(f, level int) node {
	if n := a.nodes[f]; n.level == level {
		return n
	}
	return node{level, f, f}
}

// plain is what two sets are joined to where no bit has to be looked at: of False and True it always is known.
func plain(kind, f, g int) (int, bool) {
	switch kind {
	case And:
		return plainAnd(f, g)
	case Or:
		return plainOr(f, g)
	case Xor:
		return plainXor(f, g)
	}
	return plainDiff(f, g)
}

func plainAnd(f, g int) (int, bool) {
	switch {
	case f == False || g == False:
		return False, true
	case f == True:
		return g, true
	case g == True || f == g:
		return f, true
	}
	return 0, false
}

func plainOr(f, g int) (int, bool) {
	switch {
	case f == True || g == True:
		return True, true
	case f == False:
		return g, true
	case g == False || f == g:
		return f, true
	}
	return 0, false
}

func plainXor(f, g int) (int, bool) {
	switch {
	case f == g:
		return False, true
	case f == False:
		return g, true
	case g == False:
		return f, true
	}
	return 0, false
}

func plainDiff(f, g int) (int, bool) {
	switch {
	case f == False || g == True || f == g:
		return False, true
	case g == False:
		return f, true
	}
	return 0, false
}

// narrowing is the work of one Restrict, with each set narrowed once.
type narrowing struct {
	*Arena
	bit  int
	on   bool
	done map[int]int
}

// Restrict is the set of the headers that are in a set when a bit of them is set, or isn't.
func (a *Arena) Restrict(f, i int, on bool) (int, api.Errno) {
	if e := a.check(f); e != api.OK {
		return 0, e
	}
	if !isBit(i) {
		return 0, api.ErrArg
	}
	w := narrowing{a, i, on, map[int]int{}}
	return a.whole(func() (int, api.Errno) { return w.set(f) })
}

// set narrows a set: of nodes of that bit one part is taken, and what is above them is made anew.
func (w *narrowing) set(f int) (int, api.Errno) {
	n := w.nodes[f]
	switch {
	case n.level > w.bit:
		return f, api.OK
	case n.level == w.bit && w.on:
		return n.high, api.OK
	case n.level == w.bit:
		return n.low, api.OK
	}
	if r, known := w.done[f]; known {
		return r, api.OK
	}
	low, e := w.set(n.low)
	if e != api.OK {
		return 0, e
	}
	high, e := w.set(n.high)
	if e != api.OK {
		return 0, e
	}
	r, e := w.number(node{n.level, low, high})
	if e != api.OK {
		return 0, e
	}
	w.done[f] = r
	return r, api.OK
}
