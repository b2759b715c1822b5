package stripe

import (
	"maps"

	"crossbuck/api"
	"crossbuck/bdd"
)

// mostAgain is how many pairs one Join goes through again that it joined and forgot. Where little is remembered their number may double with each bit, and the call would hardly end.
const mostAgain = 1 << 16

// pair is two sets, and how they are joined.
type pair struct{ kind, f, g int }

// Worker joins sets, and remembers what came of it.
type Worker struct {
	table  *Table
	most   int
	hits   int
	joined map[pair]int
}

// Worker is a worker that remembers so much.
func (t *Table) Worker(most int) *Worker {
	if t == nil {
		return nil
	}
	return &Worker{table: t, most: max(most, 1), joined: map[pair]int{}}
}

// Hits is how often a worker had remembered.
func (w *Worker) Hits() int {
	if w == nil {
		return 0
	}
	return w.hits
}

// Var is the set of the headers that have a bit set, or haven't.
func (w *Worker) Var(i int, on bool) (int, api.Errno) {
	switch {
	case w == nil || w.table == nil:
		return 0, api.ErrNil
	case i < 0 || i >= api.Vars:
		return 0, api.ErrArg
	case on:
		return w.table.number(node{i, bdd.False, bdd.True})
	}
	return w.table.number(node{i, bdd.True, bdd.False})
}

// Join joins two sets.
func (w *Worker) Join(kind, f, g int) (int, api.Errno) {
	if w == nil || w.table == nil {
		return 0, api.ErrNil
	}
	if kind < bdd.And || kind > bdd.Diff || !w.table.Has(f) || !w.table.Has(g) {
		return 0, api.ErrArg
	}
	j := joining{worker: w, fresh: map[pair]int{}, gone: map[pair]int{}}
	r, e := j.join(pair{kind, f, g})
	if e != api.OK {
		return 0, e
	}
	w.keep(&j)
	return r, api.OK
}

// keep takes over what was remembered and forgotten in a Join that came through.
func (w *Worker) keep(j *joining) {
	w.hits += j.hits
	if j.forgot {
		clear(w.joined)
	}
	maps.Copy(w.joined, j.fresh)
}

// joining is the work of one Join. The worker is as it was until that has come through, as one that is refused leaves nothing behind but nodes.
type joining struct {
	worker *Worker
	hits   int
	forgot bool         // whether what the worker remembered ahead is forgotten
	fresh  map[pair]int // what is remembered since
	gone   map[pair]int // what was joined on the way and is forgotten
	again  int          // how many of these were gone through again
}

// join joins a pair bit by bit. Each node that it makes on its way is one of the answer's, so it needs no room beside.
func (j *joining) join(p pair) (int, api.Errno) {
	if r, known := plain(p); known {
		return r, api.OK
	}
	if r, there := j.remembered(p); there {
		j.hits++
		return r, api.OK
	}
	r, e := j.anew(p)
	if e != api.OK {
		return 0, e
	}
	j.remember(p, r)
	return r, api.OK
}

// remembered is what a pair was joined to, if that isn't forgotten.
func (j *joining) remembered(p pair) (int, bool) {
	if r, there := j.fresh[p]; there || j.forgot {
		return r, there
	}
	r, there := j.worker.joined[p]
	return r, there
}

// remember keeps what a pair was joined to, and forgets all others first, if there are as many as may be.
func (j *joining) remember(p pair, r int) {
	held := len(j.fresh)
	if !j.forgot {
		held += len(j.worker.joined)
	}
	if held >= j.worker.most {
		maps.Copy(j.gone, j.fresh)
		clear(j.fresh)
		j.forgot = true
	}
	j.fresh[p] = r
}

// anew joins a pair that isn't remembered, part by part, also if it was joined on the way: its parts count as hits, and are remembered, as they were then. Only where that comes too often it takes what it had.
func (j *joining) anew(p pair) (int, api.Errno) {
	if r, there := j.gone[p]; there {
		if j.again == mostAgain {
			return r, api.OK
		}
		j.again++
	}
	x, y := j.worker.table.node(p.f), j.worker.table.node(p.g)
	level := min(x.level, y.level)
	x, y = x.at(level, p.f), y.at(level, p.g)
	low, e := j.join(pair{p.kind, x.low, y.low})
	if e != api.OK {
		return 0, e
	}
	high, e := j.join(pair{p.kind, x.high, y.high})
	if e != api.OK {
		return 0, e
	}
	return j.worker.table.number(node{level, low, high})
}

// at is the node of a set for a bit that is its first one, or ahead of that: there it is both parts itself.
func (n node) at(level, f int) node {
	if n.level == level {
		return n
	}
	return node{level, f, f}
}

// plain is what a pair is joined to where no bit has to be looked at: of False and True it always is known.
func plain(p pair) (int, bool) {
	switch {
	case p.f <= bdd.True:
		return told(p.g, ends(p.kind, p.f, bdd.False), ends(p.kind, p.f, bdd.True))
	case p.g <= bdd.True:
		return told(p.f, ends(p.kind, bdd.False, p.g), ends(p.kind, bdd.True, p.g))
	case p.f == p.g:
		return told(p.f, ends(p.kind, bdd.False, bdd.False), ends(p.kind, bdd.True, bdd.True))
	}
	return 0, false
}

// told is the set that has all headers that f hasn't, or none of them, and all that it has, or none. Where that is just what f hasn't, it has to be made yet, if f isn't False or True.
func told(f, without, with int) (int, bool) {
	switch {
	case without == with:
		return with, true
	case with == bdd.True:
		return f, true
	case f <= bdd.True:
		return bdd.True - f, true
	}
	return 0, false
}

// ends joins two that are False or True.
func ends(kind, f, g int) int {
	switch kind {
	case bdd.And:
		return f & g
	case bdd.Or:
		return f | g
	case bdd.Xor:
		return f ^ g
	}
	return f &^ g
}
