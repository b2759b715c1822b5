package filter_test

import (
	"math"
	"math/rand/v2"
	"strings"
	"testing"

	"crossbuck/api"
	"crossbuck/cidr"
	"crossbuck/filter"
	"crossbuck/hdr"
)

// all is the filter that asks nothing, field by field.
var all = api.Filter{Proto: -1, SPort: api.Range{Low: 0, High: 65535}, DPort: api.Range{Low: 0, High: 65535}}

// toTen goes to 10/8, to port 80.
var toTen = api.Filter{Dst: api.Prefix{Addr: 10 << 24, Bits: 8}, Proto: -1, SPort: api.Range{High: 65535}, DPort: api.Range{Low: 80, High: 80}}

// but is a filter with one field changed.
func but(f api.Filter, change func(f *api.Filter)) api.Filter {
	change(&f)
	return f
}

// samples are filters that may be, each field from its least to its greatest.
func samples() []api.Filter {
	l := []api.Filter{
		{}, all, toTen,
		but(all, func(f *api.Filter) { f.Dst = cidr.Of(math.MaxUint32, 32) }),
		but(all, func(f *api.Filter) { f.Dst = cidr.Of(10<<24|1<<16, 16) }),
		but(all, func(f *api.Filter) { f.Src = cidr.Of(10<<24, 8) }),
		but(all, func(f *api.Filter) { f.Src = cidr.Of(11<<24, 8) }),
		but(all, func(f *api.Filter) { f.Src = cidr.Of(math.MaxUint32, 1) }),
		but(all, func(f *api.Filter) { f.Proto = 0 }),
		but(all, func(f *api.Filter) { f.Proto = 6 }),
		but(all, func(f *api.Filter) { f.Proto = 255 }),
		but(all, func(f *api.Filter) { f.SPort = api.Range{} }),
		but(all, func(f *api.Filter) { f.SPort = api.Range{Low: 1024, High: 65535} }),
		but(all, func(f *api.Filter) { f.SPort = api.Range{Low: 65535, High: 65535} }),
		but(all, func(f *api.Filter) { f.SPort = api.Range{Low: 80, High: 1024} }),
		but(all, func(f *api.Filter) { f.DPort = api.Range{} }),
		but(all, func(f *api.Filter) { f.DPort = api.Range{Low: 81, High: 443} }),
		but(all, func(f *api.Filter) { f.DPort = api.Range{Low: 65535, High: 65535} }),
		but(all, func(f *api.Filter) { f.DPort = api.Range{Low: 0, High: 80} }),
	}
	r := rand.New(rand.NewPCG(7, 8))
	ports := func() api.Range {
		a, b := uint16(r.Uint32()), uint16(r.Uint32())
		return api.Range{Low: min(a, b), High: max(a, b)}
	}
	for range 40 {
		l = append(l, api.Filter{Dst: cidr.Of(r.Uint32(), r.IntN(4)), Src: cidr.Of(r.Uint32(), r.IntN(33)), Proto: r.IntN(257) - 1, SPort: ports(), DPort: ports()})
	}
	return l
}

// wrong are filters that may not be, with what is wrong.
func wrong() map[api.Filter]api.Errno {
	out := map[api.Filter]api.Errno{}
	for _, p := range []api.Prefix{{Bits: -1}, {Bits: 33}, {Bits: math.MinInt}, {Bits: math.MaxInt}, {Addr: 1, Bits: 31}, {Addr: 1 << 31}, {Addr: 10<<24 | 1, Bits: 8}} {
		dst := but(all, func(f *api.Filter) { f.Dst = p })
		src := but(all, func(f *api.Filter) { f.Src = p })
		out[dst], out[src] = api.ErrPrefix, api.ErrPrefix
		for _, f := range []api.Filter{dst, src} {
			out[but(f, func(f *api.Filter) { f.Proto = 256 })] = api.ErrPrefix
			out[but(f, func(f *api.Filter) { f.SPort = api.Range{Low: 1} })] = api.ErrPrefix
		}
	}
	for _, n := range []int{-2, -256, 256, 257, 512, 1 << 32, math.MinInt, math.MaxInt} {
		f := but(all, func(f *api.Filter) { f.Proto = n })
		out[f] = api.ErrRange
		out[but(f, func(f *api.Filter) { f.SPort = api.Range{Low: 1} })] = api.ErrRange
		out[but(f, func(f *api.Filter) { f.DPort = api.Range{Low: 1} })] = api.ErrRange
	}
	for _, r := range []api.Range{{Low: 1}, {Low: 65535}, {Low: 65535, High: 65534}, {Low: 81, High: 80}} {
		out[but(all, func(f *api.Filter) { f.SPort = r })] = api.ErrBounds
		out[but(all, func(f *api.Filter) { f.DPort = r })] = api.ErrBounds
		out[but(all, func(f *api.Filter) { f.SPort, f.DPort = r, r })] = api.ErrBounds
	}
	return out
}

// near are a number, and those beside it.
func near[T uint8 | uint16 | uint32](l ...T) []T {
	var out []T
	for _, n := range l {
		out = append(out, n-1, n, n+1)
	}
	return out
}

// headersBy are headers at and beside the edges of a filter's fields, one field changed at a time.
func headersBy(f api.Filter) []api.Header {
	base := api.Header{Dst: f.Dst.Addr, Src: f.Src.Addr, Proto: uint8(max(f.Proto, 0)), SPort: f.SPort.Low, DPort: f.DPort.Low}
	l := []api.Header{base, {}, {Dst: math.MaxUint32, Src: math.MaxUint32, Proto: 255, SPort: 65535, DPort: 65535}}
	with := func(change func(h *api.Header)) {
		h := base
		change(&h)
		l = append(l, h)
	}
	for _, a := range near(f.Dst.Addr, cidr.Last(f.Dst)) {
		with(func(h *api.Header) { h.Dst = a })
	}
	for _, a := range near(f.Src.Addr, cidr.Last(f.Src)) {
		with(func(h *api.Header) { h.Src = a })
	}
	for _, n := range near(base.Proto, 0, 6, 255) {
		with(func(h *api.Header) { h.Proto = n })
	}
	for _, n := range near(f.SPort.Low, f.SPort.High) {
		with(func(h *api.Header) { h.SPort = n })
	}
	for _, n := range near(f.DPort.Low, f.DPort.High) {
		with(func(h *api.Header) { h.DPort = n })
	}
	return l
}

// passes is what Match should say, by the ends of each field.
func passes(f api.Filter, h api.Header) bool {
	inside := func(low, n, high int) bool { return low <= n && n <= high }
	low, high := max(f.Proto, 0), f.Proto
	if f.Proto == -1 {
		high = 255
	}
	return inside(int(f.Dst.Addr), int(h.Dst), int(f.Dst.Addr)+1<<(32-f.Dst.Bits)-1) &&
		inside(int(f.Src.Addr), int(h.Src), int(f.Src.Addr)+1<<(32-f.Src.Bits)-1) &&
		inside(low, int(h.Proto), high) &&
		inside(int(f.SPort.Low), int(h.SPort), int(f.SPort.High)) &&
		inside(int(f.DPort.Low), int(h.DPort), int(f.DPort.High))
}

// P4.1
func TestAll(t *testing.T) {
	if f := filter.All(); f != all {
		t.Errorf("All() = %v", f)
	}
	if e := filter.Check(filter.All()); e != api.OK {
		t.Errorf("Check(All()) = %d", e)
	}
	for _, f := range samples() {
		for _, h := range headersBy(f) {
			if !filter.Match(filter.All(), h) {
				t.Errorf("Match(All(), %v) = false", h)
			}
		}
		if !filter.Meet(filter.All(), f) || !filter.Meet(f, filter.All()) {
			t.Errorf("%v does not meet all", f)
		}
	}
}

// P4.1
func TestCheck(t *testing.T) {
	for _, f := range samples() {
		if e := filter.Check(f); e != api.OK {
			t.Errorf("Check(%v) = %d", f, e)
		}
	}
	for n := -1; n <= 255; n++ {
		if e := filter.Check(but(all, func(f *api.Filter) { f.Proto = n })); e != api.OK {
			t.Errorf("Check of protocol %d: %d", n, e)
		}
	}
	for n := range 33 {
		p := cidr.Of(math.MaxUint32, n)
		if e := filter.Check(but(all, func(f *api.Filter) { f.Dst, f.Src = p, p })); e != api.OK {
			t.Errorf("Check of %v: %d", p, e)
		}
	}
	for f, want := range wrong() {
		if e := filter.Check(f); e != want {
			t.Errorf("Check(%v) = %d, want %d", f, e, want)
		}
	}
}

// P4.1
func TestMatch(t *testing.T) {
	for _, f := range samples() {
		for _, g := range samples() {
			for _, h := range headersBy(g) {
				if got, want := filter.Match(f, h), passes(f, h); got != want {
					t.Fatalf("Match(%v, %v) = %v", f, h, got)
				}
			}
		}
	}
}

// P4.1
func TestMatchByHand(t *testing.T) {
	for _, x := range []struct {
		h    api.Header
		want bool
	}{
		{api.Header{Dst: 10<<24 | 1, DPort: 80}, true},
		{api.Header{Dst: 10 << 24, Src: math.MaxUint32, Proto: 255, SPort: 65535, DPort: 80}, true},
		{api.Header{Dst: 11<<24 - 1, DPort: 80}, true},
		{api.Header{Dst: 11 << 24, DPort: 80}, false},
		{api.Header{Dst: 10<<24 - 1, DPort: 80}, false},
		{api.Header{Dst: 10 << 24, DPort: 79}, false},
		{api.Header{Dst: 10 << 24, DPort: 81}, false},
		{api.Header{Src: 10 << 24, SPort: 80}, false},
	} {
		if got := filter.Match(toTen, x.h); got != x.want {
			t.Errorf("Match(%v, %v) = %v", toTen, x.h, got)
		}
	}
	for n := -1; n <= 255; n++ {
		f := but(all, func(f *api.Filter) { f.Proto = n })
		for k := range 256 {
			if got, want := filter.Match(f, api.Header{Proto: uint8(k)}), n == -1 || n == k; got != want {
				t.Errorf("Match of protocol %d, %d: %v", n, k, got)
			}
		}
	}
}

// bothPass says whether some header passes two filters: if so, one does whose fields are where the later one begins.
func bothPass(f, g api.Filter) bool {
	h := api.Header{
		Dst:   max(f.Dst.Addr, g.Dst.Addr),
		Src:   max(f.Src.Addr, g.Src.Addr),
		Proto: uint8(max(f.Proto, g.Proto, 0)),
		SPort: max(f.SPort.Low, g.SPort.Low),
		DPort: max(f.DPort.Low, g.DPort.Low),
	}
	return passes(f, h) && passes(g, h)
}

// P4.1
func TestMeet(t *testing.T) {
	met := 0
	for _, f := range samples() {
		for _, g := range samples() {
			got, want := filter.Meet(f, g), bothPass(f, g)
			if got != want {
				t.Errorf("Meet(%v, %v) = %v", f, g, got)
			}
			if got {
				met++
			}
		}
	}
	if n := len(samples()); met < n || met > n*n-n {
		t.Errorf("%d of %d pairs meet: the samples tell too little", met, n*n)
	}
}

// P4.1: one field alone keeps two filters apart, or ends where the other's begins.
func TestMeetByHand(t *testing.T) {
	for _, x := range []struct {
		f, g func(f *api.Filter)
		want bool
	}{
		{func(f *api.Filter) { f.Dst = cidr.Of(10<<24, 8) }, func(f *api.Filter) { f.Dst = cidr.Of(10<<24|1<<16, 16) }, true},
		{func(f *api.Filter) { f.Dst = cidr.Of(10<<24, 8) }, func(f *api.Filter) { f.Dst = cidr.Of(11<<24, 8) }, false},
		{func(f *api.Filter) { f.Src = cidr.Of(10<<24, 8) }, func(f *api.Filter) { f.Src = cidr.Of(10<<24|1<<16, 16) }, true},
		{func(f *api.Filter) { f.Src = cidr.Of(10<<24, 8) }, func(f *api.Filter) { f.Src = cidr.Of(11<<24, 8) }, false},
		{func(f *api.Filter) { f.Dst = cidr.Of(10<<24, 8) }, func(f *api.Filter) { f.Src = cidr.Of(11<<24, 8) }, true},
		{func(f *api.Filter) { f.Proto = 6 }, func(f *api.Filter) { f.Proto = 6 }, true},
		{func(f *api.Filter) { f.Proto = 6 }, func(f *api.Filter) { f.Proto = 17 }, false},
		{func(f *api.Filter) { f.Proto = 0 }, func(f *api.Filter) { f.Proto = 255 }, false},
		{func(f *api.Filter) { f.Proto = 6 }, func(f *api.Filter) {}, true},
		{func(f *api.Filter) { f.SPort = api.Range{Low: 1, High: 80} }, func(f *api.Filter) { f.SPort = api.Range{Low: 80, High: 90} }, true},
		{func(f *api.Filter) { f.SPort = api.Range{Low: 1, High: 80} }, func(f *api.Filter) { f.SPort = api.Range{Low: 81, High: 90} }, false},
		{func(f *api.Filter) { f.SPort = api.Range{Low: 1, High: 80} }, func(f *api.Filter) { f.SPort = api.Range{Low: 5, High: 6} }, true},
		{func(f *api.Filter) { f.DPort = api.Range{Low: 1, High: 80} }, func(f *api.Filter) { f.DPort = api.Range{Low: 80, High: 90} }, true},
		{func(f *api.Filter) { f.DPort = api.Range{Low: 1, High: 80} }, func(f *api.Filter) { f.DPort = api.Range{Low: 81, High: 90} }, false},
		{func(f *api.Filter) { f.DPort = api.Range{Low: 65535, High: 65535} }, func(f *api.Filter) { f.DPort = api.Range{} }, false},
		{func(f *api.Filter) { f.SPort = api.Range{Low: 1, High: 80} }, func(f *api.Filter) { f.DPort = api.Range{Low: 81, High: 90} }, true},
	} {
		f, g := but(all, x.f), but(all, x.g)
		if filter.Meet(f, g) != x.want || filter.Meet(g, f) != x.want {
			t.Errorf("Meet(%v, %v) = %v, %v, want %v", f, g, filter.Meet(f, g), filter.Meet(g, f), x.want)
		}
	}
}

// P4.1
func TestSome(t *testing.T) {
	if h := filter.Some(all); h != (api.Header{}) {
		t.Errorf("Some(all) = %v", h)
	}
	f := api.Filter{Dst: cidr.Of(10<<24, 8), Src: cidr.Of(math.MaxUint32, 32), Proto: 255, SPort: api.Range{Low: 7, High: 9}, DPort: api.Range{Low: 65535, High: 65535}}
	if h, want := filter.Some(f), (api.Header{Dst: 10 << 24, Src: math.MaxUint32, Proto: 255, SPort: 7, DPort: 65535}); h != want {
		t.Errorf("Some(%v) = %v, want %v", f, h, want)
	}
	for _, f := range samples() {
		least := filter.Some(f)
		if !passes(f, least) {
			t.Errorf("Some(%v) = %v: it does not pass", f, least)
		}
		for _, g := range samples() {
			for _, h := range headersBy(g) {
				if passes(f, h) && hdr.Compare(h, least) < 0 {
					t.Fatalf("Some(%v) = %v, but %v is less", f, least, h)
				}
			}
		}
	}
}

// R1: of filters that may not be nothing is promised but that the calls end.
func TestWrongFilters(t *testing.T) {
	for f := range wrong() {
		for g := range wrong() {
			filter.Meet(f, g)
		}
		filter.Meet(f, all)
		filter.Meet(all, f)
		filter.Match(f, filter.Some(f))
		filter.Print(f)
	}
}

// P4.2
func TestPrintParse(t *testing.T) {
	for _, x := range []struct {
		f api.Filter
		s string
	}{
		{toTen, "10.0.0.0/8 0.0.0.0/0 any 0-65535 80-80"},
		{all, "0.0.0.0/0 0.0.0.0/0 any 0-65535 0-65535"},
		{api.Filter{}, "0.0.0.0/0 0.0.0.0/0 0 0-0 0-0"},
		{api.Filter{Dst: cidr.Of(1<<24, 8), Src: cidr.Of(2<<24, 9), Proto: 6, SPort: api.Range{Low: 1, High: 2}, DPort: api.Range{Low: 3, High: 4}}, "1.0.0.0/8 2.0.0.0/9 6 1-2 3-4"},
		{
			api.Filter{Dst: cidr.Of(math.MaxUint32, 32), Src: cidr.Of(math.MaxUint32, 1), Proto: 255, SPort: api.Range{Low: 65534, High: 65535}, DPort: api.Range{Low: 65535, High: 65535}},
			"255.255.255.255/32 128.0.0.0/1 255 65534-65535 65535-65535",
		},
	} {
		if s := filter.Print(x.f); s != x.s {
			t.Errorf("Print(%v) = %q, want %q", x.f, s, x.s)
		}
		if f, e := filter.Parse(x.s); f != x.f || e != api.OK {
			t.Errorf("Parse(%q) = %v, %d, want %v", x.s, f, e, x.f)
		}
	}
	l := samples()
	for n := -1; n <= 255; n++ {
		l = append(l, but(all, func(f *api.Filter) { f.Proto = n }))
	}
	for _, f := range l {
		if g, e := filter.Parse(filter.Print(f)); g != f || e != api.OK {
			t.Errorf("Parse(%q) = %v, %d, want %v", filter.Print(f), g, e, f)
		}
	}
}

// right is the text whose parts the tests of wrong ones change.
var right = [5]string{"10.0.0.0/8", "0.0.0.0/0", "6", "0-65535", "80-80"}

// withPart is that text with a part changed.
func withPart(i int, part string) string {
	parts := right
	parts[i] = part
	return strings.Join(parts[:], " ")
}

// P4.2
func TestParseWrongParts(t *testing.T) {
	if _, e := filter.Parse(withPart(0, right[0])); e != api.OK {
		t.Fatal(e)
	}
	prefixWrong := map[string]api.Errno{
		"": api.ErrForm, "any": api.ErrForm, "10.0.0.0": api.ErrForm, "10.0.0.0/": api.ErrForm, "10.0.0.0/08": api.ErrForm, "010.0.0.0/8": api.ErrForm, "10.0.0.0/8/": api.ErrForm, "10.0.0/8": api.ErrForm,
		"10.0.0.256/8": api.ErrRange, "10.0.0.0/33": api.ErrRange,
		"10.0.0.1/8": api.ErrPrefix, "128.0.0.0/0": api.ErrPrefix,
	}
	protoWrong := map[string]api.Errno{
		"": api.ErrForm, "06": api.ErrForm, "00": api.ErrForm, "-1": api.ErrForm, "Any": api.ErrForm, "ANY": api.ErrForm, "an": api.ErrForm, "any6": api.ErrForm, "anyany": api.ErrForm, "6x": api.ErrForm, "6-6": api.ErrForm, "*": api.ErrForm,
		"256": api.ErrRange, "1000": api.ErrRange, "18446744073709551622": api.ErrRange,
	}
	rangeWrong := map[string]api.Errno{
		"": api.ErrForm, "any": api.ErrForm, "80": api.ErrForm, "80-": api.ErrForm, "-80": api.ErrForm, "080-80": api.ErrForm, "80-080": api.ErrForm, "80-80-": api.ErrForm, "80-80x": api.ErrForm,
		"0-65536": api.ErrRange, "65536-0": api.ErrRange,
		"1-0": api.ErrBounds, "65535-65534": api.ErrBounds,
	}
	for i, l := range []map[string]api.Errno{prefixWrong, prefixWrong, protoWrong, rangeWrong, rangeWrong} {
		for part, want := range l {
			if f, e := filter.Parse(withPart(i, part)); f != (api.Filter{}) || e != want {
				t.Errorf("Parse(%q) = %v, %d, want zeros, %d", withPart(i, part), f, e, want)
			}
		}
	}
}

// P4.2
func TestParseWrong(t *testing.T) {
	for _, x := range []struct {
		s string
		e api.Errno
	}{
		{"", api.ErrForm},
		{"    ", api.ErrForm},
		{strings.Repeat(" ", 100000), api.ErrForm},
		{"10.0.0.0/8 0.0.0.0/0 any 0-65535", api.ErrForm},
		{"10.0.0.0/8 0.0.0.0/0 any 0-65535 80-80 ", api.ErrForm},
		{"10.0.0.0/8 0.0.0.0/0 any 0-65535 80-80 x", api.ErrForm},
		{" 10.0.0.0/8 0.0.0.0/0 any 0-65535 80-80", api.ErrForm},
		{"10.0.0.0/8  0.0.0.0/0 any 0-65535 80-80", api.ErrForm},
		{"10.0.0.0/8\t0.0.0.0/0\tany\t0-65535\t80-80", api.ErrForm},
		{"10.0.0.0/8 0.0.0.0/0 any 0-65535 80-80\n", api.ErrForm},

		// Too few or too many parts come ahead of what is wrong in one.
		{"10.0.0.1/8 0.0.0.0/0 any 0-65535", api.ErrForm},
		{"10.0.0.1/8 0.0.0.0/0 any 0-65535 80-80 ", api.ErrForm},
		{"10.0.0.256/8", api.ErrForm},
		{"10.0.0.0/8 0.0.0.0/0 any 0-65535 2-1 2-1", api.ErrForm},

		// Of several wrong parts the first is told.
		{"10.0.0.1/8 x any 0-65535 80-80", api.ErrPrefix},
		{"x 10.0.0.1/8 any 0-65535 80-80", api.ErrForm},
		{"10.0.0.0/33 10.0.0.1/8 x 0-65535 80-80", api.ErrRange},
		{"10.0.0.0/8 10.0.0.1/8 x 2-1 65536-0", api.ErrPrefix},
		{"10.0.0.0/8 0.0.0.0/0 256 x 2-1", api.ErrRange},
		{"10.0.0.0/8 0.0.0.0/0 x 2-1 65536-0", api.ErrForm},
		{"10.0.0.0/8 0.0.0.0/0 6 2-1 65536-0", api.ErrBounds},
		{"10.0.0.0/8 0.0.0.0/0 6 65536-0 2-1", api.ErrRange},
		{"10.0.0.0/8 0.0.0.0/0 6 x 2-1", api.ErrForm},
		{"10.0.0.0/8 0.0.0.0/0 6 1-2 2-1", api.ErrBounds},
		{"10.0.0.0/8 0.0.0.0/0 256 1-2 2-1", api.ErrRange},
		{"10.0.0.1/8 0.0.0.0/0 256 2-1 2-1", api.ErrPrefix},
	} {
		if f, e := filter.Parse(x.s); f != (api.Filter{}) || e != x.e {
			t.Errorf("Parse(%.60q) = %v, %d, want zeros, %d", x.s, f, e, x.e)
		}
	}
}

// P4.2: what is read is a filter that may be, written as it was, and nothing else is read.
func FuzzParse(f *testing.F) {
	for _, s := range []string{"", "10.0.0.0/8 0.0.0.0/0 any 0-65535 80-80", "0.0.0.0/0 0.0.0.0/0 0 0-0 0-0", "10.0.0.1/8 0.0.0.0/0 256 2-1 x"} {
		f.Add(s)
	}
	f.Fuzz(func(t *testing.T, s string) {
		g, e := filter.Parse(s)
		switch {
		case e == api.OK && (filter.Check(g) != api.OK || filter.Print(g) != s):
			t.Errorf("Parse(%q) = %v, written %q", s, g, filter.Print(g))
		case e != api.OK && g != (api.Filter{}):
			t.Errorf("Parse(%q) = %v beside %d", s, g, e)
		case e != api.OK && e != api.ErrForm && e != api.ErrRange && e != api.ErrPrefix && e != api.ErrBounds:
			t.Errorf("Parse(%q): %d", s, e)
		}
	})
}
