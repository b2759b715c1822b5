package wide_test

import (
	"math"
	"math/big"
	"math/rand/v2"
	"strings"
	"testing"

	"crossbuck/api"
	"crossbuck/wide"
)

const most = "340282366920938463463374607431768211455"

var greatest = wide.Count{High: math.MaxUint64, Low: math.MaxUint64}

// samples are the edges of both halves, and some counts between.
func samples() []wide.Count {
	halves := []uint64{0, 1, 2, 9, 10, 1<<32 - 1, 1 << 32, 1<<63 - 1, 1 << 63, math.MaxUint64 - 1, math.MaxUint64}
	var l []wide.Count
	for _, h := range halves {
		for _, w := range halves {
			l = append(l, wide.Count{High: h, Low: w})
		}
	}
	r := rand.New(rand.NewPCG(1, 2))
	for range 60 {
		l = append(l, wide.Count{High: r.Uint64() >> r.IntN(64), Low: r.Uint64() >> r.IntN(64)})
	}
	return l
}

func toBig(c wide.Count) *big.Int {
	b := new(big.Int).SetUint64(c.High)
	b.Lsh(b, 64)
	return b.Or(b, new(big.Int).SetUint64(c.Low))
}

// fromBig takes a number modulo 2^128.
func fromBig(b *big.Int) wide.Count {
	mod := new(big.Int).Lsh(big.NewInt(1), 128)
	b = new(big.Int).Mod(b, mod)
	high := new(big.Int).Rsh(b, 64)
	low := new(big.Int).And(b, new(big.Int).SetUint64(math.MaxUint64))
	return wide.Count{High: high.Uint64(), Low: low.Uint64()}
}

// P1.1
func TestOf(t *testing.T) {
	for _, n := range []uint64{0, 1, 10, 1 << 63, math.MaxUint64} {
		if c := wide.Of(n); c != (wide.Count{Low: n}) {
			t.Errorf("Of(%d) = %v", n, c)
		}
	}
}

// P1.1
func TestAddSubCompare(t *testing.T) {
	l := samples()
	for _, c := range l {
		for _, d := range l {
			b, e := toBig(c), toBig(d)
			if got, want := c.Add(d), fromBig(new(big.Int).Add(b, e)); got != want {
				t.Fatalf("%v.Add(%v) = %v, want %v", c, d, got, want)
			}
			if got, want := c.Sub(d), fromBig(new(big.Int).Sub(b, e)); got != want {
				t.Fatalf("%v.Sub(%v) = %v, want %v", c, d, got, want)
			}
			if got, want := c.Compare(d), b.Cmp(e); got != want {
				t.Fatalf("%v.Compare(%v) = %d, want %d", c, d, got, want)
			}
		}
	}
}

// P1.1
func TestAddSubWrap(t *testing.T) {
	one, zero := wide.Of(1), wide.Count{}
	if c := greatest.Add(one); c != zero {
		t.Errorf("2^128 - 1 and 1: %v", c)
	}
	if c := zero.Sub(one); c != greatest {
		t.Errorf("0 without 1: %v", c)
	}
	if c := wide.Of(math.MaxUint64).Add(one); c != (wide.Count{High: 1}) {
		t.Errorf("2^64 - 1 and 1: %v", c)
	}
	if c := (wide.Count{High: 1}).Sub(one); c != wide.Of(math.MaxUint64) {
		t.Errorf("2^64 without 1: %v", c)
	}
	if c := greatest.Add(greatest); c != greatest.Sub(one) {
		t.Errorf("2^128 - 1 twice: %v", c)
	}
}

// P1.1
func TestUp(t *testing.T) {
	for _, c := range samples() {
		for n := 0; n < 128; n++ {
			want := fromBig(new(big.Int).Lsh(toBig(c), uint(n)))
			if got := c.Up(n); got != want {
				t.Fatalf("%v.Up(%d) = %v, want %v", c, n, got, want)
			}
		}
		for _, n := range []int{math.MinInt, -128, -64, -1, 128, 129, 192, 256, math.MaxInt} {
			if got := c.Up(n); got != (wide.Count{}) {
				t.Fatalf("%v.Up(%d) = %v, want 0", c, n, got)
			}
		}
	}
}

// P1.1
func TestPow(t *testing.T) {
	for n := -3; n < 132; n++ {
		want := wide.Count{}
		if n >= 0 && n < 128 {
			want = fromBig(new(big.Int).Lsh(big.NewInt(1), uint(n)))
		}
		if got := wide.Pow(n); got != want {
			t.Errorf("Pow(%d) = %v, want %v", n, got, want)
		}
	}
	if c := wide.Pow(127); c != (wide.Count{High: 1 << 63}) {
		t.Errorf("Pow(127) = %v", c)
	}
	if s := wide.Pow(104).Print(); s != "20282409603651670423947251286016" {
		t.Errorf("Pow(104) is %s", s)
	}
	for _, n := range []int{math.MinInt, math.MaxInt} {
		if c := wide.Pow(n); c != (wide.Count{}) {
			t.Errorf("Pow(%d) = %v, want 0", n, c)
		}
	}
}

// P1.1
func TestZero(t *testing.T) {
	for _, c := range samples() {
		if got, want := c.Zero(), toBig(c).Sign() == 0; got != want {
			t.Errorf("%v.Zero() = %v", c, got)
		}
	}
}

// P1.2
func TestPrint(t *testing.T) {
	for _, x := range []struct {
		c    wide.Count
		want string
	}{
		{wide.Count{}, "0"},
		{wide.Of(7), "7"},
		{wide.Of(10), "10"},
		{wide.Of(1000), "1000"},
		{wide.Of(math.MaxUint64), "18446744073709551615"},
		{wide.Count{High: 1}, "18446744073709551616"},
		{greatest, most},
	} {
		if s := x.c.Print(); s != x.want {
			t.Errorf("%v.Print() = %q, want %q", x.c, s, x.want)
		}
	}
	for _, c := range samples() {
		if got, want := c.Print(), toBig(c).String(); got != want {
			t.Errorf("%v.Print() = %q, want %q", c, got, want)
		}
	}
}

// P1.2
func TestParse(t *testing.T) {
	for _, x := range []struct {
		s    string
		want wide.Count
		e    api.Errno
	}{
		{"0", wide.Count{}, api.OK},
		{"9", wide.Of(9), api.OK},
		{"100", wide.Of(100), api.OK},
		{"18446744073709551615", wide.Of(math.MaxUint64), api.OK},
		{"18446744073709551616", wide.Count{High: 1}, api.OK},
		{"340282366920938463463374607431768211454", wide.Count{High: math.MaxUint64, Low: math.MaxUint64 - 1}, api.OK},
		{most, greatest, api.OK},

		{"", wide.Count{}, api.ErrForm},
		{"00", wide.Count{}, api.ErrForm},
		{"01", wide.Count{}, api.ErrForm},
		{"007", wide.Count{}, api.ErrForm},
		{"0" + most, wide.Count{}, api.ErrForm},
		{" ", wide.Count{}, api.ErrForm},
		{" 1", wide.Count{}, api.ErrForm},
		{"1 ", wide.Count{}, api.ErrForm},
		{"+1", wide.Count{}, api.ErrForm},
		{"-1", wide.Count{}, api.ErrForm},
		{"1_0", wide.Count{}, api.ErrForm},
		{"12a4", wide.Count{}, api.ErrForm},
		{"1/", wide.Count{}, api.ErrForm},
		{"1:", wide.Count{}, api.ErrForm},
		{"0x1", wide.Count{}, api.ErrForm},
		{"1\x00", wide.Count{}, api.ErrForm},
		{"1\xff", wide.Count{}, api.ErrForm},
		{"\u0661", wide.Count{}, api.ErrForm},
		{"1\uff11", wide.Count{}, api.ErrForm},
		{"\U00010031", wide.Count{}, api.ErrForm},

		{"340282366920938463463374607431768211456", wide.Count{}, api.ErrRange},
		{"340282366920938463463374607431768211460", wide.Count{}, api.ErrRange},
		{"340282366920938463463374607431768211500", wide.Count{}, api.ErrRange},
		{"999999999999999999999999999999999999999", wide.Count{}, api.ErrRange},
		{most + "0", wide.Count{}, api.ErrRange},
		{"1000000000000000000000000000000000000000", wide.Count{}, api.ErrRange},
		{strings.Repeat("9", 100000), wide.Count{}, api.ErrRange},
	} {
		if c, e := wide.Parse(x.s); c != x.want || e != x.e {
			t.Errorf("Parse(%.50q) = %v, %d, want %v, %d", x.s, c, e, x.want, x.e)
		}
	}
}

// P1.2: of several faults the one that is met first.
func TestParseMetFirst(t *testing.T) {
	over := "340282366920938463463374607431768211456"
	for _, x := range []struct {
		s string
		e api.Errno
	}{
		{over + "x", api.ErrRange},
		{most + "1x", api.ErrRange},
		{most + "x1", api.ErrForm},
		{most[:38] + "x9", api.ErrForm},
		{most[:38] + "6x", api.ErrRange},
		{most[:38] + "9\xff", api.ErrRange},
		{"x" + over, api.ErrForm},
		{"0" + over, api.ErrForm},
	} {
		if c, e := wide.Parse(x.s); c != (wide.Count{}) || e != x.e {
			t.Errorf("Parse(%q) = %v, %d, want 0, %d", x.s, c, e, x.e)
		}
	}
}

// P1.3
func TestPrintedIsRead(t *testing.T) {
	l := samples()
	for n := 0; n < 128; n++ {
		l = append(l, wide.Pow(n), wide.Pow(n).Sub(wide.Of(1)), wide.Pow(n).Add(wide.Of(1)))
	}
	for ten, i := wide.Of(1), 0; i < 39; i++ { // each number of digits
		l = append(l, ten, ten.Sub(wide.Of(1)))
		ten = ten.Up(3).Add(ten.Up(1))
	}
	for _, c := range l {
		if d, e := wide.Parse(c.Print()); d != c || e != api.OK {
			t.Errorf("Parse(%q) = %v, %d, want %v", c.Print(), d, e, c)
		}
	}
}

// P1.3: what is read is printed as it was, and nothing else is read.
func FuzzParse(f *testing.F) {
	for _, s := range []string{"", "0", "00", "7", "x", most, most + "0", "18446744073709551616"} {
		f.Add(s)
	}
	f.Fuzz(func(t *testing.T, s string) {
		c, e := wide.Parse(s)
		switch {
		case e == api.OK && c.Print() != s:
			t.Errorf("Parse(%q) = %v, printed %q", s, c, c.Print())
		case e != api.OK && c != (wide.Count{}):
			t.Errorf("Parse(%q) = %v beside %d", s, c, e)
		case e != api.OK && e != api.ErrForm && e != api.ErrRange:
			t.Errorf("Parse(%q): %d", s, e)
		}
	})
}
