package hdr_test

import (
	"cmp"
	"math"
	"math/rand/v2"
	"strconv"
	"strings"
	"testing"

	"crossbuck/api"
	"crossbuck/hdr"
)

// samples are headers with each field at its edges, and some between.
func samples() []api.Header {
	l := []api.Header{
		{},
		{Dst: math.MaxUint32, Src: math.MaxUint32, Proto: math.MaxUint8, SPort: math.MaxUint16, DPort: math.MaxUint16},
		{Dst: 167772161, Src: 16909060, Proto: 6, SPort: 80, DPort: 443},
		{Dst: 1}, {Dst: 1 << 31}, {Dst: math.MaxUint32},
		{Src: 1}, {Src: 1 << 31}, {Src: math.MaxUint32},
		{Proto: 1}, {Proto: 1 << 7}, {Proto: math.MaxUint8},
		{SPort: 1}, {SPort: 1 << 15}, {SPort: math.MaxUint16},
		{DPort: 1}, {DPort: 1 << 15}, {DPort: math.MaxUint16},
	}
	r := rand.New(rand.NewPCG(3, 4))
	for range 80 {
		l = append(l, api.Header{Dst: r.Uint32(), Src: r.Uint32(), Proto: uint8(r.Uint32()), SPort: uint16(r.Uint32()), DPort: uint16(r.Uint32())})
	}
	return l
}

// bitText are a header's bits as digits, field by field.
func bitText(h api.Header) string {
	text := func(v uint64, n int) string {
		s := strconv.FormatUint(v, 2)
		return strings.Repeat("0", n-len(s)) + s
	}
	return text(uint64(h.Dst), 32) + text(uint64(h.Src), 32) + text(uint64(h.Proto), 8) + text(uint64(h.SPort), 16) + text(uint64(h.DPort), 16)
}

// none are numbers of bits that there are not.
var none = []int{math.MinInt, -104, -64, -1, 104, 105, 128, 168, math.MaxInt}

// P2.1
func TestFields(t *testing.T) {
	if hdr.Dst != 0 || hdr.Src != 32 || hdr.Proto != 64 || hdr.SPort != 72 || hdr.DPort != 88 {
		t.Error(hdr.Dst, hdr.Src, hdr.Proto, hdr.SPort, hdr.DPort)
	}
	for _, x := range []struct {
		h api.Header
		i int
	}{
		{api.Header{Dst: 1 << 31}, hdr.Dst},
		{api.Header{Dst: 1}, hdr.Src - 1},
		{api.Header{Src: 1 << 31}, hdr.Src},
		{api.Header{Src: 1}, hdr.Proto - 1},
		{api.Header{Proto: 1 << 7}, hdr.Proto},
		{api.Header{Proto: 1}, hdr.SPort - 1},
		{api.Header{SPort: 1 << 15}, hdr.SPort},
		{api.Header{SPort: 1}, hdr.DPort - 1},
		{api.Header{DPort: 1 << 15}, hdr.DPort},
		{api.Header{DPort: 1}, api.Vars - 1},
	} {
		for i := -1; i <= api.Vars; i++ {
			if got, want := hdr.Bit(x.h, i), i == x.i; got != want {
				t.Errorf("Bit(%v, %d) = %v", x.h, i, got)
			}
		}
		if h := hdr.With(api.Header{}, x.i, true); h != x.h {
			t.Errorf("With(0, %d, true) = %v, want %v", x.i, h, x.h)
		}
	}
}

// P2.1
func TestBit(t *testing.T) {
	for _, h := range samples() {
		s := bitText(h)
		for i := range api.Vars {
			if got, want := hdr.Bit(h, i), s[i] == '1'; got != want {
				t.Fatalf("Bit(%v, %d) = %v, want %v", h, i, got, want)
			}
		}
		for _, i := range none {
			if hdr.Bit(h, i) {
				t.Fatalf("Bit(%v, %d): there is none", h, i)
			}
		}
	}
	if !hdr.Bit(api.Header{Dst: 167772161}, 4) {
		t.Error("bit 4 of a header to 10.0.0.1 is not set")
	}
}

// P2.1
func TestWith(t *testing.T) {
	for _, h := range samples() {
		s := bitText(h)
		for i := range api.Vars {
			if got, want := bitText(hdr.With(h, i, true)), s[:i]+"1"+s[i+1:]; got != want {
				t.Fatalf("With(%v, %d, true) = %s, want %s", h, i, got, want)
			}
			if got, want := bitText(hdr.With(h, i, false)), s[:i]+"0"+s[i+1:]; got != want {
				t.Fatalf("With(%v, %d, false) = %s, want %s", h, i, got, want)
			}
		}
		for _, i := range none {
			for _, on := range []bool{false, true} {
				if got := hdr.With(h, i, on); got != h {
					t.Fatalf("With(%v, %d, %v) = %v", h, i, on, got)
				}
			}
		}
	}
}

// P2.1
func TestCompare(t *testing.T) {
	rising := []api.Header{
		{},
		{DPort: 1}, {DPort: math.MaxUint16},
		{SPort: 1}, {SPort: math.MaxUint16, DPort: math.MaxUint16},
		{Proto: 1}, {Proto: math.MaxUint8, SPort: math.MaxUint16, DPort: math.MaxUint16},
		{Src: 1}, {Src: 1, DPort: 1}, {Src: math.MaxUint32, Proto: math.MaxUint8, SPort: math.MaxUint16, DPort: math.MaxUint16},
		{Dst: 1}, {Dst: 1, Src: 1}, {Dst: 1 << 31}, {Dst: math.MaxUint32},
	}
	for i, a := range rising {
		for k, b := range rising {
			if got, want := hdr.Compare(a, b), cmp.Compare(i, k); got != want {
				t.Errorf("Compare(%v, %v) = %d, want %d", a, b, got, want)
			}
		}
	}
	for _, a := range samples() {
		for _, b := range samples() {
			want := cmp.Or(cmp.Compare(a.Dst, b.Dst), cmp.Compare(a.Src, b.Src), cmp.Compare(a.Proto, b.Proto), cmp.Compare(a.SPort, b.SPort), cmp.Compare(a.DPort, b.DPort))
			if got := hdr.Compare(a, b); got != want {
				t.Fatalf("Compare(%v, %v) = %d, want %d", a, b, got, want)
			}
		}
	}
}

// P2.2
func TestAddr(t *testing.T) {
	for _, x := range []struct {
		a    uint32
		want string
	}{
		{0, "0.0.0.0"},
		{1, "0.0.0.1"},
		{256, "0.0.1.0"},
		{1 << 31, "128.0.0.0"},
		{16909060, "1.2.3.4"},
		{167772161, "10.0.0.1"},
		{math.MaxUint32, "255.255.255.255"},
	} {
		if s := hdr.Addr(x.a); s != x.want {
			t.Errorf("Addr(%d) = %q, want %q", x.a, s, x.want)
		}
		if a, e := hdr.ParseAddr(x.want); a != x.a || e != api.OK {
			t.Errorf("ParseAddr(%q) = %d, %d, want %d", x.want, a, e, x.a)
		}
	}
}

// P2.2
func TestNumber(t *testing.T) {
	for _, x := range []struct {
		s    string
		most int
		want int
		e    api.Errno
	}{
		{"0", 0, 0, api.OK},
		{"0", 255, 0, api.OK},
		{"7", 255, 7, api.OK},
		{"7", 7, 7, api.OK},
		{"10", 255, 10, api.OK},
		{"255", 255, 255, api.OK},
		{"65535", 65535, 65535, api.OK},
		{"1073741824", 1 << 30, 1 << 30, api.OK},
		{"1073741823", 1 << 30, 1<<30 - 1, api.OK},

		{"", 255, 0, api.ErrForm},
		{"", 0, 0, api.ErrForm},
		{"00", 255, 0, api.ErrForm},
		{"00", 0, 0, api.ErrForm},
		{"01", 0, 0, api.ErrForm},
		{"010", 255, 0, api.ErrForm},
		{"0256", 255, 0, api.ErrForm},
		{" 1", 255, 0, api.ErrForm},
		{"1 ", 255, 0, api.ErrForm},
		{"+1", 255, 0, api.ErrForm},
		{"-1", 255, 0, api.ErrForm},
		{"1.", 255, 0, api.ErrForm},
		{"1a", 255, 0, api.ErrForm},
		{"/", 255, 0, api.ErrForm},
		{":", 255, 0, api.ErrForm},
		{"\x00", 255, 0, api.ErrForm},
		{"1\xff", 255, 0, api.ErrForm},
		{"\u0661", 255, 0, api.ErrForm},
		{"\uff11", 255, 0, api.ErrForm},

		{"1", 0, 0, api.ErrRange},
		{"8", 7, 0, api.ErrRange},
		{"10", 9, 0, api.ErrRange},
		{"256", 255, 0, api.ErrRange},
		{"260", 255, 0, api.ErrRange},
		{"1000", 255, 0, api.ErrRange},
		{"65536", 65535, 0, api.ErrRange},
		{"1073741825", 1 << 30, 0, api.ErrRange},
		{"10000000000", 1 << 30, 0, api.ErrRange},
		{"18446744073709551617", 1 << 30, 0, api.ErrRange},
		{strings.Repeat("9", 100000), 1 << 30, 0, api.ErrRange},

		{"256x", 255, 0, api.ErrRange},
		{"25x6", 255, 0, api.ErrForm},
		{"255x", 255, 0, api.ErrForm},
		{"1x", 0, 0, api.ErrRange},
		{"0x", 0, 0, api.ErrForm},
		{"x256", 255, 0, api.ErrForm},
	} {
		if n, e := hdr.Number(x.s, x.most); n != x.want || e != x.e {
			t.Errorf("Number(%.30q, %d) = %d, %d, want %d, %d", x.s, x.most, n, e, x.want, x.e)
		}
	}
}

// P2.2: each number up to a greatest one, and none above.
func TestNumberEach(t *testing.T) {
	for _, most := range []int{0, 1, 9, 10, 99, 100, 255} {
		for i := range 1100 {
			n, e := hdr.Number(strconv.Itoa(i), most)
			if i <= most && (n != i || e != api.OK) || i > most && (n != 0 || e != api.ErrRange) {
				t.Fatalf("Number(%d, %d) = %d, %d", i, most, n, e)
			}
		}
	}
}

// R1, R6: a greatest number beyond those that are promised.
func TestNumberBeyond(t *testing.T) {
	for _, most := range []int{math.MinInt, -1, 1<<30 + 1, math.MaxInt - 1, math.MaxInt} {
		for _, s := range []string{"", "0", "1", "x", "9223372036854775806", "9223372036854775807", "9223372036854775808", strings.Repeat("9", 50)} {
			if n, e := hdr.Number(s, most); n < 0 || n > max(most, 0) || e != api.OK && n != 0 {
				t.Errorf("Number(%q, %d) = %d, %d", s, most, n, e)
			}
		}
	}
}

// P2.2
func TestParseAddrWrong(t *testing.T) {
	for _, x := range []struct {
		s string
		e api.Errno
	}{
		{"", api.ErrForm},
		{"1", api.ErrForm},
		{"1.2.3", api.ErrForm},
		{"1.2.3.4.5", api.ErrForm},
		{"1.2.3.4.", api.ErrForm},
		{".1.2.3.4", api.ErrForm},
		{"...", api.ErrForm},
		{"1..3.4", api.ErrForm},
		{"1.2.3.", api.ErrForm},
		{"01.2.3.4", api.ErrForm},
		{"1.2.3.04", api.ErrForm},
		{"1.2.3.4 ", api.ErrForm},
		{"1.2.3.x", api.ErrForm},
		{"1.2.-3.4", api.ErrForm},
		{"1,2,3,4", api.ErrForm},
		{strings.Repeat(".", 100000), api.ErrForm},

		{"256.0.0.0", api.ErrRange},
		{"0.256.0.0", api.ErrRange},
		{"0.0.256.0", api.ErrRange},
		{"0.0.0.256", api.ErrRange},
		{"4294967296.0.0.0", api.ErrRange},

		{"256.0.0", api.ErrForm},
		{"256.0.0.0.0", api.ErrForm},
		{"256.x.0.0", api.ErrRange},
		{"x.256.0.0", api.ErrForm},
		{"1.2.256.", api.ErrRange},
		{"1.2..256", api.ErrForm},
		{"256x.0.0.0", api.ErrRange},
	} {
		if a, e := hdr.ParseAddr(x.s); a != 0 || e != x.e {
			t.Errorf("ParseAddr(%.30q) = %d, %d, want 0, %d", x.s, a, e, x.e)
		}
	}
}

// P2.2
func TestPrintParse(t *testing.T) {
	for _, x := range []struct {
		h api.Header
		s string
	}{
		{api.Header{}, "0.0.0.0 0.0.0.0 0 0 0"},
		{api.Header{Dst: 167772161, Src: 16909060, Proto: 6, SPort: 80, DPort: 443}, "10.0.0.1 1.2.3.4 6 80 443"},
		{api.Header{Dst: 1, Src: 2, Proto: 3, SPort: 4, DPort: 5}, "0.0.0.1 0.0.0.2 3 4 5"},
		{
			api.Header{Dst: math.MaxUint32, Src: math.MaxUint32, Proto: math.MaxUint8, SPort: math.MaxUint16, DPort: math.MaxUint16},
			"255.255.255.255 255.255.255.255 255 65535 65535",
		},
	} {
		if s := hdr.Print(x.h); s != x.s {
			t.Errorf("Print(%v) = %q, want %q", x.h, s, x.s)
		}
		if h, e := hdr.Parse(x.s); h != x.h || e != api.OK {
			t.Errorf("Parse(%q) = %v, %d, want %v", x.s, h, e, x.h)
		}
	}
}

// P2.2
func TestParseWrong(t *testing.T) {
	for _, x := range []struct {
		s string
		e api.Errno
	}{
		{"", api.ErrForm},
		{"    ", api.ErrForm},
		{"1.2.3.4 1.2.3.4 6 80", api.ErrForm},
		{"1.2.3.4 1.2.3.4 6 80 443 1", api.ErrForm},
		{" 1.2.3.4 1.2.3.4 6 80 443", api.ErrForm},
		{"1.2.3.4 1.2.3.4 6 80 443 ", api.ErrForm},
		{"1.2.3.4  1.2.3.4 6 80 443", api.ErrForm},
		{"1.2.3.4  6 80 443", api.ErrForm},
		{"1.2.3.4\t1.2.3.4\t6\t80\t443", api.ErrForm},
		{"1.2.3.4 1.2.3.4 6 80 443\n", api.ErrForm},
		{"1.2.3 1.2.3.4 6 80 443", api.ErrForm},
		{"1.2.3.4 1.2.3.4.5 6 80 443", api.ErrForm},
		{"1.2.3.4 1.2.3.4 06 80 443", api.ErrForm},
		{"1.2.3.4 1.2.3.4 6 -1 443", api.ErrForm},
		{"1.2.3.4 1.2.3.4 6 80 x", api.ErrForm},
		{strings.Repeat(" ", 100000), api.ErrForm},

		{"1.2.3.256 1.2.3.4 6 80 443", api.ErrRange},
		{"1.2.3.4 1.2.3.256 6 80 443", api.ErrRange},
		{"1.2.3.4 1.2.3.4 256 80 443", api.ErrRange},
		{"1.2.3.4 1.2.3.4 6 65536 443", api.ErrRange},
		{"1.2.3.4 1.2.3.4 6 80 65536", api.ErrRange},

		{"1.2.3.256 1.2.3.4 6 80", api.ErrForm},
		{"1.2.3.256 1.2.3.4 6 80 443 1", api.ErrForm},
		{"1.2.3.256 x 6 80 443", api.ErrRange},
		{"x 1.2.3.256 6 80 443", api.ErrForm},
		{"1.2.3.4 1.2.3.256 x 80 443", api.ErrRange},
		{"1.2.3.4 1.2.3 256 80 443", api.ErrForm},
		{"1.2.3.4 1.2.3.4 256 x 443", api.ErrRange},
		{"1.2.3.4 1.2.3.4 x 65536 443", api.ErrForm},
		{"1.2.3.4 1.2.3.4 6 65536 x", api.ErrRange},
		{"1.2.3.4 1.2.3.4 6 x 65536", api.ErrForm},
	} {
		if h, e := hdr.Parse(x.s); h != (api.Header{}) || e != x.e {
			t.Errorf("Parse(%.60q) = %v, %d, want zeros, %d", x.s, h, e, x.e)
		}
	}
}

// P2.3
func TestWrittenIsRead(t *testing.T) {
	l := samples()
	for i := range api.Vars {
		l = append(l, hdr.With(api.Header{}, i, true))
	}
	for _, h := range l {
		if g, e := hdr.Parse(hdr.Print(h)); g != h || e != api.OK {
			t.Errorf("Parse(%q) = %v, %d, want %v", hdr.Print(h), g, e, h)
		}
		for _, a := range []uint32{h.Dst, h.Src} {
			if b, e := hdr.ParseAddr(hdr.Addr(a)); b != a || e != api.OK {
				t.Errorf("ParseAddr(%q) = %d, %d, want %d", hdr.Addr(a), b, e, a)
			}
		}
	}
}

// P2.3
func TestHeaderIsItsBits(t *testing.T) {
	for _, h := range samples() {
		up, down := api.Header{}, samples()[1]
		for i := range api.Vars {
			up = hdr.With(up, i, hdr.Bit(h, i))
			down = hdr.With(down, i, hdr.Bit(h, i))
		}
		if up != h || down != h {
			t.Errorf("of the bits of %v: %v, %v", h, up, down)
		}
	}
}

// P2.3
func TestFirstUnlikeBit(t *testing.T) {
	l := samples()
	for _, a := range l {
		for i := range api.Vars {
			l = append(l, hdr.With(a, i, !hdr.Bit(a, i)))
		}
		if len(l) > 1200 {
			break
		}
	}
	for _, a := range l {
		for _, b := range l {
			want := 0
			for i := 0; i < api.Vars && want == 0; i++ {
				switch x, y := hdr.Bit(a, i), hdr.Bit(b, i); {
				case x && !y:
					want = 1
				case y && !x:
					want = -1
				}
			}
			if got := hdr.Compare(a, b); got != want {
				t.Fatalf("Compare(%v, %v) = %d, want %d", a, b, got, want)
			}
		}
	}
}

// P2.3: what is read is written as it was, and nothing else is read.
func FuzzParse(f *testing.F) {
	for _, s := range []string{"", "0.0.0.0 0.0.0.0 0 0 0", "10.0.0.1 1.2.3.4 6 80 443", "10.0.0.256 1.2.3.4 6 80 443", "1.2.3 x"} {
		f.Add(s)
	}
	f.Fuzz(func(t *testing.T, s string) {
		h, e := hdr.Parse(s)
		switch {
		case e == api.OK && hdr.Print(h) != s:
			t.Errorf("Parse(%q) = %v, written %q", s, h, hdr.Print(h))
		case e != api.OK && h != (api.Header{}):
			t.Errorf("Parse(%q) = %v beside %d", s, h, e)
		case e != api.OK && e != api.ErrForm && e != api.ErrRange:
			t.Errorf("Parse(%q): %d", s, e)
		}
	})
}
