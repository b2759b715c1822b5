package enc_test

import (
	"math"
	"slices"
	"testing"

	"crossbuck/api"
	"crossbuck/bdd"
	"crossbuck/cidr"
	"crossbuck/enc"
	"crossbuck/hdr"
)

// call is one that makes nodes.
type call struct {
	name string
	do   func(a *bdd.Arena) (int, api.Errno)
}

// calls are some of each kind.
func calls() []call {
	some := api.Filter{Dst: cidr.Of(10<<24, 8), Src: cidr.Of(0x55555555, 17), Proto: 6, SPort: api.Range{Low: 1, High: 1023}, DPort: api.Range{Low: 0x5555, High: 0xaaaa}}
	plain := api.Filter{Dst: cidr.Of(10<<24, 8), Proto: api.Any, SPort: allPorts, DPort: api.Range{Low: 80, High: 80}}
	return []call{
		{"Prefix of one bit", func(a *bdd.Arena) (int, api.Errno) { return enc.Prefix(a, hdr.Src, cidr.Of(1<<31, 1)) }},
		{"Prefix", func(a *bdd.Arena) (int, api.Errno) { return enc.Prefix(a, hdr.Dst, cidr.Of(10<<24, 8)) }},
		{"Prefix of 32 bits", func(a *bdd.Arena) (int, api.Errno) { return enc.Prefix(a, hdr.Dst, cidr.Of(math.MaxUint32, 32)) }},
		{"Range", func(a *bdd.Arena) (int, api.Errno) { return enc.Range(a, hdr.SPort, api.Range{Low: 1, High: 6}) }},
		{"Range of one port", func(a *bdd.Arena) (int, api.Errno) { return enc.Range(a, hdr.DPort, api.Range{Low: 80, High: 80}) }},
		{"Range of many blocks", func(a *bdd.Arena) (int, api.Errno) {
			return enc.Range(a, hdr.DPort, api.Range{Low: 1, High: math.MaxUint16 - 1})
		}},
		{"Filter", func(a *bdd.Arena) (int, api.Errno) { return enc.Filter(a, some) }},
		{"Filter of blocks", func(a *bdd.Arena) (int, api.Errno) { return enc.Filter(a, plain) }},
		{"Header of noughts", func(a *bdd.Arena) (int, api.Errno) { return enc.Header(a, api.Header{}) }},
		{"Header of ones", func(a *bdd.Arena) (int, api.Errno) { return enc.Header(a, allSet) }},
	}
}

// Errors: arenas that are just full, and short by each number of nodes.
func TestJustFullAndShort(t *testing.T) {
	for _, c := range calls() {
		t.Run(c.name, func(t *testing.T) {
			wide := arena(t, 10000)
			want := sure(t)(c.do(wide))
			just := arena(t, wide.Len())
			if f := sure(t)(c.do(just)); f != want || !slices.Equal(rows(just), rows(wide)) {
				t.Errorf("just full: %d, want %d", f, want)
			}
			if f := sure(t)(c.do(just)); f != want || just.Len() != wide.Len() {
				t.Errorf("just full, again: %d, want %d", f, want)
			}
			for most := 2; most < wide.Len(); most++ {
				short := arena(t, most)
				refused(t, api.ErrFull)(c.do(short))
				refused(t, api.ErrFull)(c.do(short))
				if short.Len() != 2 {
					t.Errorf("room for %d: Len %d behind ErrFull", most, short.Len())
				}
			}
		})
	}
}

// Errors: what there is stays behind ErrFull, and the same call is OK once there is room.
func TestOnceThereIsRoom(t *testing.T) {
	for _, c := range calls() {
		t.Run(c.name, func(t *testing.T) {
			wide := arena(t, 10000)
			want := sure(t)(c.do(wide))
			a := arena(t, wide.Len())
			for a.Len() < wide.Len() {
				fill(t, a)
				ahead := rows(a)
				refused(t, api.ErrFull)(c.do(a))
				if !slices.Equal(rows(a), ahead) {
					t.Fatalf("behind ErrFull: nodes %v, want %v", rows(a), ahead)
				}
			}
			a.Cut(2)
			if f := sure(t)(c.do(a)); f != want || !slices.Equal(rows(a), rows(wide)) {
				t.Errorf("once there is room: %d, want %d", f, want)
			}
		})
	}
}

// fill makes one more node, of sets that ask for bits of Proto alone: none of the calls makes these, so it is no help to them.
func fill(t *testing.T, a *bdd.Arena) {
	t.Helper()
	was := a.Len()
	for n := 1; n < 1<<8; n++ {
		var l []bdd.Lit
		for i := range 8 {
			if n>>i&1 == 1 {
				l = append(l, bdd.Lit{Var: hdr.Proto + i, On: true})
			}
		}
		sure(t)(a.Cube(l...))
		if a.Len() > was {
			a.Cut(was + 1)
			return
		}
	}
	t.Fatalf("nothing more to fill an arena of %d with", was)
}

// Errors: in an arena that is full each call is OK whose nodes are there.
func TestFullButThere(t *testing.T) {
	ok := sure(t)
	a := arena(t, 2)
	for _, f := range []int{
		ok(enc.Prefix(a, hdr.Dst, api.Prefix{})),
		ok(enc.Range(a, hdr.SPort, allPorts)),
		ok(enc.Filter(a, api.Filter{Proto: api.Any, SPort: allPorts, DPort: allPorts})),
	} {
		if f != bdd.True {
			t.Errorf("in an arena without room: %d, want True", f)
		}
	}
	refused(t, api.ErrFull)(enc.Header(a, api.Header{}))
	refused(t, api.ErrFull)(enc.Prefix(a, hdr.Dst, cidr.Of(0, 1)))
	b := arena(t, 10)
	p := cidr.Of(10<<24, 8)
	f := ok(enc.Prefix(b, hdr.Dst, p))
	if g := ok(enc.Prefix(b, hdr.Dst, p)); g != f || b.Len() != 10 {
		t.Errorf("the same again: %d, want %d", g, f)
	}
	// A shorter one ends in other bits, so its nodes are none of these.
	for n := 1; n < 8; n++ {
		refused(t, api.ErrFull)(enc.Prefix(b, hdr.Dst, cidr.Of(10<<24, n)))
	}
}

// R1: arenas that New didn't make are none that panic.
func TestOtherArenas(t *testing.T) {
	for _, c := range calls() {
		c.do(&bdd.Arena{})
		c.do(nil)
	}
}
