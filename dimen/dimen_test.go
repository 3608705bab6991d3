package dimen_test

import (
	"fmt"
	"math"
	"math/big"
	"regexp"
	"slices"
	"strings"
	"testing"

	"vinculum/api"
	"vinculum/dimen"
)

const m = api.MaxLen

// edges are lengths at and beside every bound that the chapter names, with some ordinary ones between.
func edges() []int {
	var l []int
	for _, n := range []int{0, 1, 2, 3, 5, 10, 99, 1024, 6553, 6554, 32767, 32768, 32769, api.Point - 1, api.Point, api.Point + 1, 98304, 1000003, m/3 + 1, m / 2, m/2 + 1, m - api.Point, m - 2, m - 1, m} {
		l = append(l, n, -n)
	}
	return l
}

// outside are ints that are no lengths: one beyond them, and the last ones of all.
func outside() []int {
	return []int{m + 1, -m - 1, m + 2, -m - 2, math.MaxInt32, math.MinInt32, math.MaxInt, math.MinInt, math.MaxInt - 1, math.MinInt + 1}
}

func negativeZero() float64 { return math.Copysign(0, -1) }

// floats are points at, halfway between and just beside lengths, the edges of floats, and a spread of bit patterns.
func floats() []float64 {
	l := []float64{0, math.Inf(1), math.MaxFloat64, math.SmallestNonzeroFloat64, 1e-310, 0.1, 0.3, 1.0 / 3, 2.5, 1e10, 1 << 47, 1e300, math.MaxFloat64 / api.Point}
	for _, n := range edges() {
		for _, part := range []float64{0, 0.25, 0.49, 0.5, 0.51, 0.75} {
			f := (float64(n) + part) / api.Point
			l = append(l, f, math.Nextafter(f, math.Inf(1)), math.Nextafter(f, math.Inf(-1)))
		}
	}
	bits := uint64(1)
	for range 5000 {
		bits = bits*6364136223846793005 + 1442695040888963407
		f := math.Float64frombits(bits)
		l = append(l, f)
		// The same digits again, where lengths are.
		if f == f {
			part, _ := math.Frexp(f)
			l = append(l, part*32768, part, part/32768)
		}
	}
	for _, f := range slices.Clone(l) {
		l = append(l, -f)
	}
	return l
}

// rounded is the integer nearest to x, halves away from 0, worked out as (2|x| + 1) / 2 rounded down, with the sign behind.
func rounded(x *big.Rat) *big.Int {
	n := new(big.Rat).Abs(x)
	n.Add(n, big.NewRat(1, 2))
	whole := new(big.Int).Quo(n.Num(), n.Denom())
	return whole.Mul(whole, big.NewInt(int64(x.Sign())))
}

// expected is what the chapter answers for p scaled points, worked out without bounds.
func expected(p float64, times int64) (int, api.Errno) {
	if math.IsNaN(p) {
		return 0, api.ErrNaN
	}
	if math.IsInf(p, 0) {
		return 0, api.ErrOver
	}
	x := new(big.Rat).SetFloat64(p)
	return length(rounded(x.Mul(x, big.NewRat(times, 1))))
}

func length(n *big.Int) (int, api.Errno) {
	if n.CmpAbs(big.NewInt(m)) > 0 {
		return 0, api.ErrOver
	}
	return int(n.Int64()), api.OK
}

// P2.1: Of, at the edges that the document names.
func TestOfEdges(t *testing.T) {
	point := 1 / float64(api.Point)
	for _, k := range []struct {
		f    float64
		want int
		code api.Errno
	}{
		{math.NaN(), 0, api.ErrNaN}, {math.Inf(1), 0, api.ErrOver}, {math.Inf(-1), 0, api.ErrOver},
		{0, 0, api.OK}, {negativeZero(), 0, api.OK}, {1, api.Point, api.OK}, {-1, -api.Point, api.OK},
		{0.5, 32768, api.OK}, {-0.00001, -1, api.OK}, {0.1, 6554, api.OK}, {-0.1, -6554, api.OK},
		{0.5 * point, 1, api.OK}, {-0.5 * point, -1, api.OK}, {1.5 * point, 2, api.OK}, {-1.5 * point, -2, api.OK}, {2.5 * point, 3, api.OK}, {-2.5 * point, -3, api.OK},
		{math.Nextafter(0.5*point, 0), 0, api.OK}, {math.Nextafter(-0.5*point, 0), 0, api.OK},
		{m * point, m, api.OK}, {-m * point, -m, api.OK},
		{math.Nextafter((m+0.5)*point, 0), m, api.OK}, {math.Nextafter((-m-0.5)*point, 0), -m, api.OK},
		{(m + 0.5) * point, 0, api.ErrOver}, {(-m - 0.5) * point, 0, api.ErrOver},
		{(m + 1) * point, 0, api.ErrOver}, {(-m - 1) * point, 0, api.ErrOver},
		{1 << 47, 0, api.ErrOver}, {-1 << 47, 0, api.ErrOver}, {1 << 48, 0, api.ErrOver}, {math.MaxFloat64, 0, api.ErrOver}, {-math.MaxFloat64, 0, api.ErrOver},
		{math.SmallestNonzeroFloat64, 0, api.OK}, {-math.SmallestNonzeroFloat64, 0, api.OK},
	} {
		if n, e := dimen.Of(k.f); n != k.want || e != k.code {
			t.Errorf("P2.1: Of(%v) is %d, %d; want %d, %d", k.f, n, e, k.want, k.code)
		}
	}
}

// P2.1: Of, against unbounded arithmetic.
func TestOf(t *testing.T) {
	for _, f := range floats() {
		want, code := expected(f, api.Point)
		if n, e := dimen.Of(f); n != want || e != code {
			t.Errorf("P2.1: Of(%v) is %d, %d; want %d, %d", f, n, e, want, code)
		}
	}
}

// P2.1: Float is exact; of 0 it has no sign; an int that is no length is ErrArg.
func TestFloat(t *testing.T) {
	for _, a := range edges() {
		f, e := dimen.Float(a)
		if e != api.OK || new(big.Rat).SetFloat64(f).Cmp(big.NewRat(int64(a), api.Point)) != 0 {
			t.Errorf("P2.1: Float(%d) is %v, %d", a, f, e)
		}
	}
	if f, _ := dimen.Float(0); math.Signbit(f) {
		t.Error("P2.1: Float(0) has a sign")
	}
	for _, a := range outside() {
		if f, e := dimen.Float(a); f != 0 || e != api.ErrArg {
			t.Errorf("P2.1: Float(%d) is %v, %d", a, f, e)
		}
	}
}

// P2.2: Scale, at the edges that the document names.
func TestScaleEdges(t *testing.T) {
	inf := math.Inf(1)
	for _, k := range []struct {
		a    int
		f    float64
		want int
		code api.Errno
	}{
		{10, math.NaN(), 0, api.ErrNaN}, {0, math.NaN(), 0, api.ErrNaN}, {0, inf, 0, api.ErrNaN}, {0, -inf, 0, api.ErrNaN},
		{1, inf, 0, api.ErrOver}, {-1, inf, 0, api.ErrOver}, {m, -inf, 0, api.ErrOver}, {m, math.MaxFloat64, 0, api.ErrOver}, {2, -math.MaxFloat64, 0, api.ErrOver},
		{7, 0, 0, api.OK}, {7, negativeZero(), 0, api.OK}, {-7, 0, 0, api.OK}, {0, -5, 0, api.OK}, {0, math.MaxFloat64, 0, api.OK},
		{1, 0.5, 1, api.OK}, {-1, 0.5, -1, api.OK}, {3, 0.5, 2, api.OK}, {3, -0.5, -2, api.OK}, {-5, -0.5, 3, api.OK},
		{1, math.Nextafter(0.5, 0), 0, api.OK}, {-1, math.Nextafter(0.5, 0), 0, api.OK}, {10, 0.24, 2, api.OK}, {m, math.SmallestNonzeroFloat64, 0, api.OK},
		{m, 1, m, api.OK}, {m, -1, -m, api.OK}, {-m, 1, -m, api.OK}, {m, math.Nextafter(1, 2), m, api.OK}, {m, math.Nextafter(1, 0), m, api.OK},
		{1, m + 0.25, m, api.OK}, {1, m + 0.5, 0, api.ErrOver}, {-1, m + 0.5, 0, api.ErrOver}, {1, m + 1, 0, api.ErrOver}, {1, -m - 1, 0, api.ErrOver}, {m, 2, 0, api.ErrOver},
		// The float 1/6 is below a sixth, but its product with 3 is 0.5 once it is a float64.
		{3, 1.0 / 6, 1, api.OK}, {-3, 1.0 / 6, -1, api.OK},
	} {
		if n, e := dimen.Scale(k.a, k.f); n != k.want || e != k.code {
			t.Errorf("P2.2: Scale(%d, %v) is %d, %d; want %d, %d", k.a, k.f, n, e, k.want, k.code)
		}
	}
}

// P2.2: Scale, against unbounded arithmetic behind the float64 product.
func TestScale(t *testing.T) {
	for _, f := range floats() {
		for _, a := range []int{0, 1, -1, 3, -10, 6554, api.Point, -1000003, m, -m} {
			want, code := expected(float64(a)*f, 1)
			if n, e := dimen.Scale(a, f); n != want || e != code {
				t.Errorf("P2.2: Scale(%d, %v) is %d, %d; want %d, %d", a, f, n, e, want, code)
			}
		}
	}
}

// P2.2: an int that is no length is ErrArg, which goes ahead of every other error.
func TestScaleWrong(t *testing.T) {
	for _, a := range outside() {
		for _, f := range []float64{0, 1, 1e-30, -1, math.MaxFloat64, math.NaN(), math.Inf(1), math.Inf(-1)} {
			if n, e := dimen.Scale(a, f); n != 0 || e != api.ErrArg {
				t.Errorf("P2.2: Scale(%d, %v) is %d, %d", a, f, n, e)
			}
		}
	}
}

var form = regexp.MustCompile(`\A(-?)([0-9]{1,5})(\.[0-9]{1,10})?pt\z`)

// read is what the chapter asks Parse for, worked out without bounds.
func read(s string) (int, api.Errno) {
	parts := form.FindStringSubmatch(s)
	if parts == nil {
		return 0, api.ErrForm
	}
	n, _ := new(big.Int).SetString(parts[2], 10)
	n.Mul(n, big.NewInt(api.Point))
	if parts[3] != "" {
		fract, _ := new(big.Rat).SetString("0" + parts[3])
		n.Add(n, rounded(fract.Mul(fract, big.NewRat(api.Point, 1))))
	}
	if parts[1] != "" {
		n.Neg(n)
	}
	return length(n)
}

func sameParse(t *testing.T, s string) {
	t.Helper()
	want, code := read(s)
	if n, e := dimen.Parse(s); n != want || e != code {
		t.Errorf("P2.3: Parse(%q) is %d, %d; want %d, %d", s, n, e, want, code)
	}
}

// P2.3: Parse, at the edges that the document names.
func TestParseEdges(t *testing.T) {
	for _, k := range []struct {
		s    string
		want int
		code api.Errno
	}{
		{"1pt", api.Point, api.OK}, {"-1pt", -api.Point, api.OK}, {"0.1pt", 6554, api.OK}, {"-0.1pt", -6554, api.OK}, {"2.5pt", 163840, api.OK},
		{"0pt", 0, api.OK}, {"-0pt", 0, api.OK}, {"-0.0pt", 0, api.OK}, {"00000.0000000000pt", 0, api.OK},
		{"12345pt", 12345 * api.Point, api.OK}, {"00001pt", api.Point, api.OK}, {"000001pt", 0, api.ErrForm}, {"123456pt", 0, api.ErrForm},
		{"1.5pt", 98304, api.OK}, {"1.5000000000pt", 98304, api.OK}, {"1.50000000000pt", 0, api.ErrForm},
		{"0.0000076293pt", 0, api.OK}, {"0.0000076294pt", 1, api.OK}, {"-0.0000076293pt", 0, api.OK}, {"-0.0000076294pt", -1, api.OK},
		{"0.9999923706pt", 65535, api.OK}, {"0.9999923707pt", 65536, api.OK}, {"0.9999999999pt", 65536, api.OK}, {"-7.9999999999pt", -8 * api.Point, api.OK},
		{"16383.99998pt", m, api.OK}, {"-16383.99998pt", -m, api.OK}, {"16383.9999923706pt", m, api.OK}, {"-16383.9999923706pt", -m, api.OK},
		{"16383.9999923707pt", 0, api.ErrOver}, {"-16383.9999923707pt", 0, api.ErrOver}, {"16384pt", 0, api.ErrOver}, {"-16384.0pt", 0, api.ErrOver}, {"99999.9999999999pt", 0, api.ErrOver}, {"65536pt", 0, api.ErrOver},
		{"", 0, api.ErrForm}, {"-", 0, api.ErrForm}, {"pt", 0, api.ErrForm}, {"-pt", 0, api.ErrForm}, {".pt", 0, api.ErrForm}, {".5pt", 0, api.ErrForm}, {"5.pt", 0, api.ErrForm}, {"--5pt", 0, api.ErrForm}, {"+5pt", 0, api.ErrForm}, {"5.-5pt", 0, api.ErrForm},
		{"99999", 0, api.ErrForm}, {"99999.99999999999pt", 0, api.ErrForm}, {"99999.pt", 0, api.ErrForm}, {"99999.5.5pt", 0, api.ErrForm}, {"5pc", 0, api.ErrForm}, {"5p", 0, api.ErrForm}, {"5t", 0, api.ErrForm}, {"5Pt", 0, api.ErrForm}, {"5 pt", 0, api.ErrForm}, {" 5pt", 0, api.ErrForm}, {"5pt ", 0, api.ErrForm}, {"5ptpt", 0, api.ErrForm}, {"5pt\n", 0, api.ErrForm},
		{"1e3pt", 0, api.ErrForm}, {"0x1pt", 0, api.ErrForm}, {"1_0pt", 0, api.ErrForm}, {"1,5pt", 0, api.ErrForm}, {"NaNpt", 0, api.ErrForm}, {"Infpt", 0, api.ErrForm}, {"\u0661pt", 0, api.ErrForm}, {"\uff11pt", 0, api.ErrForm}, {"1\xffpt", 0, api.ErrForm}, {"\x001pt", 0, api.ErrForm},
	} {
		if n, e := dimen.Parse(k.s); n != k.want || e != k.code {
			t.Errorf("P2.3: Parse(%q) is %d, %d; want %d, %d", k.s, n, e, k.want, k.code)
		}
	}
	for _, part := range []string{"9", "-", ".", "pt", "\x00"} {
		sameParse(t, strings.Repeat(part, 100000)+"pt")
		sameParse(t, "1."+strings.Repeat(part, 100000)+"pt")
	}
}

// P2.3: Parse of all that can be put together of right and wrong parts, against unbounded arithmetic.
func TestParse(t *testing.T) {
	fracts := []string{"", ".", ".x", ".-1", ".5.5", ". 5", ".5 ", ",5", "..5"}
	for count := 1; count <= 11; count++ {
		for _, digit := range []string{"0", "1", "4", "5", "9"} {
			fracts = append(fracts, "."+strings.Repeat(digit, count), "."+strings.Repeat("0", count-1)+digit, "."+digit+strings.Repeat("0", count-1), "."+strings.Repeat("9", count-1)+digit)
		}
	}
	for _, sign := range []string{"", "-", "--", "+", " "} {
		for _, whole := range []string{"", "0", "1", "9", "00000", "00001", "12345", "16383", "16384", "16385", "32768", "99999", "000000", "123456", "999999", "1 ", "a", "1-"} {
			for _, fract := range fracts {
				for _, unit := range []string{"pt", "", "p", "PT", " pt", "pt ", "ptpt", "p.t"} {
					sameParse(t, sign+whole+fract+unit)
				}
			}
		}
	}
}

// P2.3: a text with a byte changed, put in or left out, at every place.
func TestParseBytes(t *testing.T) {
	for _, s := range []string{"1pt", "-12.34pt", "12345.0123456789pt", "-16383.99998pt"} {
		for i := range len(s) + 1 {
			sameParse(t, s[:i])
			sameParse(t, s[i:])
			for c := range 256 {
				sameParse(t, s[:i]+string([]byte{byte(c)})+s[i:])
				if i < len(s) {
					sameParse(t, s[:i]+string([]byte{byte(c)})+s[i+1:])
				}
			}
			if i < len(s) {
				sameParse(t, s[:i]+s[i+1:])
			}
		}
	}
}

// P2.4: Text, at the edges that the document names.
func TestTextEdges(t *testing.T) {
	for a, want := range map[int]string{
		0: "0.0pt", 1: "0.00002pt", -1: "-0.00002pt", api.Point: "1.0pt", -api.Point: "-1.0pt", 32768: "0.5pt", -98304: "-1.5pt",
		6554: "0.1pt", 6553: "0.09999pt", 655: "0.01pt", 66: "0.001pt", 7: "0.0001pt", api.Point - 1: "0.99998pt", api.Point + 1: "1.00002pt",
		10 * api.Point: "10.0pt", 100*api.Point + 6554: "100.1pt", 16383 * api.Point: "16383.0pt", m: "16383.99998pt", -m: "-16383.99998pt",
		// Halfway between two fractions, 0.015625 and 0.046875: the greater one.
		1024: "0.01563pt", -1024: "-0.01563pt", 3072: "0.04688pt", 3072 + 5*api.Point: "5.04688pt",
	} {
		if s, e := dimen.Text(a); s != want || e != api.OK {
			t.Errorf("P2.4: Text(%d) is %q, %d; want %q", a, s, e, want)
		}
	}
	for _, a := range outside() {
		if s, e := dimen.Text(a); s != "" || e != api.ErrArg {
			t.Errorf("P2.4: Text(%d) is %q, %d", a, s, e)
		}
	}
}

// fewest finds, for each number of scaled points below a point, the fewest digits that Parse reads as it, and the nearest of these, by trying all.
func fewest(t *testing.T) []string {
	best := make([]string, api.Point)
	off := make([]int, api.Point)
	for count, power := 1, 10; count <= 5; count, power = count+1, 10*power {
		for n := range power {
			s := fmt.Sprintf("%0*d", count, n)
			a, e := dimen.Parse("0." + s + "pt")
			if e != api.OK {
				t.Fatalf("P2.3: Parse of %q is %d", s, e)
			}
			if a == api.Point || best[a] != "" && len(best[a]) < count {
				continue
			}
			d := n*api.Point - a*power
			d = max(d, -d)
			// The numbers rise, so of two that are as near the later one is the greater one.
			if best[a] == "" || d <= off[a] {
				best[a], off[a] = s, d
			}
		}
	}
	return best
}

// P2.4: Text of every number of scaled points below a point, behind some whole ones, of either sign.
func TestText(t *testing.T) {
	best := fewest(t)
	for _, whole := range []int{0, 1, 10, 16383} {
		for fract, digits := range best {
			want := fmt.Sprintf("%d.%spt", whole, digits)
			a := whole*api.Point + fract
			if s, e := dimen.Text(a); s != want || e != api.OK {
				t.Fatalf("P2.4: Text(%d) is %q, %d; want %q", a, s, e, want)
			}
			if a == 0 {
				continue
			}
			if s, e := dimen.Text(-a); s != "-"+want || e != api.OK {
				t.Fatalf("P2.4: Text(%d) is %q, %d; want -%s", -a, s, e, want)
			}
		}
	}
}

// P2.5: what Text and Float tell is read as it was, and Scale by 1 changes nothing.
func TestBack(t *testing.T) {
	l := edges()
	for n := range 2 * api.Point {
		l = append(l, n, -n, m-n, n-m)
	}
	for a := -m; a <= m; a += 99991 {
		l = append(l, a)
	}
	for _, a := range l {
		s, e := dimen.Text(a)
		n, code := dimen.Parse(s)
		if e != api.OK || code != api.OK || n != a {
			t.Fatalf("P2.5: Parse(Text(%d)) is %d, by %q", a, n, s)
		}
		f, e := dimen.Float(a)
		n, code = dimen.Of(f)
		if e != api.OK || code != api.OK || n != a {
			t.Fatalf("P2.5: Of(Float(%d)) is %d, by %v", a, n, f)
		}
		if n, e = dimen.Scale(a, 1); e != api.OK || n != a {
			t.Fatalf("P2.5: Scale(%d, 1) is %d, %d", a, n, e)
		}
	}
}

// P2.5: Of(-f) is -Of(f), and Of does not decrease when f increases.
func TestOfOrder(t *testing.T) {
	rising := slices.DeleteFunc(floats(), math.IsNaN)
	slices.Sort(rising)
	last := -m
	for _, f := range rising {
		n, e := dimen.Of(f)
		back, code := dimen.Of(-f)
		if back != -n || code != e {
			t.Errorf("P2.5: Of(%v) is %d, %d, and Of(%v) is %d, %d", f, n, e, -f, back, code)
		}
		if e != api.OK {
			continue
		}
		if n < last {
			t.Errorf("P2.5: Of(%v) is %d, below %d", f, n, last)
		}
		last = n
	}
	if last != m {
		t.Errorf("P2.5: the floats end at %d, not at the last length", last)
	}
}

// P2.5: zero is printed without a sign, whichever way it was made.
func TestZero(t *testing.T) {
	of, _ := dimen.Of(negativeZero())
	scaled, _ := dimen.Scale(-7, 0)
	little, _ := dimen.Of(-1e-9)
	parsed, _ := dimen.Parse("-0.0pt")
	for _, a := range []int{0, of, scaled, little, parsed} {
		if s, e := dimen.Text(a); s != "0.0pt" || e != api.OK {
			t.Errorf("P2.5: zero is %q, %d", s, e)
		}
	}
}
