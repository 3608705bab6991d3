package fixed_test

import (
	"math"
	"math/big"
	"slices"
	"testing"

	"vinculum/api"
	"vinculum/fixed"
)

const m = api.MaxLen

// edges are lengths at and beside every bound that the chapter names, with some ordinary ones between.
func edges() []int {
	var l []int
	for _, n := range []int{0, 1, 2, 3, 5, 7, 10, 99, 1000, 32767, 32768, api.Point, api.Point + 1, 1000003, m/3 + 1, m / 2, m/2 + 1, m - 2, m - 1, m} {
		l = append(l, n, -n)
	}
	return l
}

// outside are ints that are no lengths: one beyond them, and the last ones of all.
func outside() []int {
	return []int{m + 1, -m - 1, m + 2, -m - 2, math.MaxInt32, math.MinInt32, math.MaxInt, math.MinInt, math.MaxInt - 1, math.MinInt + 1}
}

func same(t *testing.T, promise string, n int, e api.Errno, want int, code api.Errno, call string, args ...int) {
	t.Helper()
	if n != want || e != code {
		t.Errorf("%s: %s%v is %d, %d; want %d, %d", promise, call, args, n, e, want, code)
	}
}

// expected is a result of unbounded arithmetic as the chapter answers it.
func expected(n *big.Int) (int, api.Errno) {
	if n.CmpAbs(big.NewInt(m)) > 0 {
		return 0, api.ErrOver
	}
	return int(n.Int64()), api.OK
}

func number(n int) *big.Int { return big.NewInt(int64(n)) }

// quotient is a * b / c to the nearest, halves away from 0, worked out as (2|ab| + |c|) / 2|c| rounded down, with the sign behind.
func quotient(a, b, c int) *big.Int {
	n := new(big.Int).Mul(number(a), number(b))
	sign := n.Sign() * number(c).Sign()
	by := new(big.Int).Abs(number(c))
	n.Abs(n).Lsh(n, 1).Add(n, by)
	n.Quo(n, by.Lsh(by, 1))
	return n.Mul(n, big.NewInt(int64(sign)))
}

// P1.1: Is, of lengths and of ints that are none, at every place.
func TestIs(t *testing.T) {
	if !fixed.Is() {
		t.Error("P1.1: Is of nothing is false")
	}
	for _, n := range edges() {
		if !fixed.Is(n) {
			t.Errorf("P1.1: Is(%d) is false", n)
		}
	}
	if !fixed.Is(edges()...) {
		t.Error("P1.1: Is of all lengths is false")
	}
	for _, n := range outside() {
		for _, l := range [][]int{{n}, {n, 0, 1}, {0, n, 1}, {0, 1, n}, {n, n}} {
			if fixed.Is(l...) {
				t.Errorf("P1.1: Is%v is true", l)
			}
		}
	}
}

// P1.1: an argument that is no length is ErrArg at every place, even where the result would be a length, or no length either.
func TestWrongArguments(t *testing.T) {
	const p = "P1.1"
	for _, x := range outside() {
		for _, y := range []int{0, 1, -1, m, -m, x, -x} {
			for _, l := range [][]int{{x, y}, {y, x}} {
				n, e := fixed.Add(l[0], l[1])
				same(t, p, n, e, 0, api.ErrArg, "Add", l...)
			}
			for _, l := range [][]int{{x, y, 1}, {y, x, 1}, {1, y, x}, {x, 0, y}, {0, x, y}, {x, y, 0}} {
				n, e := fixed.MulDiv(l[0], l[1], l[2])
				same(t, p, n, e, 0, api.ErrArg, "MulDiv", l...)
			}
			for _, l := range [][]int{{x}, {x, y}, {y, x}, {m, m, x}, {x, m, m}, {m, x, m}} {
				n, e := fixed.Sum(l...)
				same(t, p, n, e, 0, api.ErrArg, "Sum", l...)
			}
			n, e := fixed.Times(x, y)
			same(t, p, n, e, 0, api.ErrArg, "Times", x, y)
		}
		n, e := fixed.Half(x)
		same(t, p, n, e, 0, api.ErrArg, "Half", x)
	}
}

// P1.2: Add and Sum of two, against unbounded arithmetic.
func TestAdd(t *testing.T) {
	for _, a := range edges() {
		for _, b := range edges() {
			want, code := expected(new(big.Int).Add(number(a), number(b)))
			n, e := fixed.Add(a, b)
			same(t, "P1.2", n, e, want, code, "Add", a, b)
			n, e = fixed.Sum(a, b)
			same(t, "P1.2", n, e, want, code, "Sum", a, b)
		}
	}
}

// P1.2: Sum of none, one and many, and partial sums that go out of range and come back.
func TestSum(t *testing.T) {
	for _, k := range []struct {
		l    []int
		want int
		code api.Errno
	}{
		{nil, 0, api.OK},
		{[]int{}, 0, api.OK},
		{[]int{m}, m, api.OK},
		{[]int{-m}, -m, api.OK},
		{[]int{1, 2, 3, 4, 5}, 15, api.OK},
		{[]int{m, -1, 1}, m, api.OK},
		{[]int{m, -m, -m, m}, 0, api.OK},
		{[]int{m, 1}, 0, api.ErrOver},
		{[]int{-m, -1}, 0, api.ErrOver},
		{[]int{m, 1, -1}, 0, api.ErrOver},
		{[]int{-m, -1, 1}, 0, api.ErrOver},
		{[]int{0, m, 1, -m, -m}, 0, api.ErrOver},
		{[]int{1, -m, -2, 5}, 0, api.ErrOver},
		{[]int{m, m, -m, -m}, 0, api.ErrOver},
		{[]int{m, m, m, m}, 0, api.ErrOver},
	} {
		n, e := fixed.Sum(k.l...)
		same(t, "P1.2", n, e, k.want, k.code, "Sum", k.l...)
	}
	long := slices.Repeat([]int{m, -m}, 10000)
	if n, e := fixed.Sum(long...); n != 0 || e != api.OK {
		t.Errorf("P1.2: Sum of %d lengths is %d, %d", len(long), n, e)
	}
}

// P1.2: Times, with an n that may be any int, where a product may wrap round.
func TestTimes(t *testing.T) {
	times := append(append(edges(), outside()...), 1<<32, -1<<32, 1<<61, 1<<62, -1<<62, 1<<62+1, math.MaxInt/3+1)
	for _, a := range edges() {
		for _, n := range times {
			want, code := expected(new(big.Int).Mul(number(a), number(n)))
			got, e := fixed.Times(a, n)
			same(t, "P1.2", got, e, want, code, "Times", a, n)
		}
	}
}

// P1.3: MulDiv, against unbounded arithmetic, and the chapter's own examples.
func TestMulDiv(t *testing.T) {
	for _, k := range [][4]int{{5, 1, 2, 3}, {-5, 1, 2, -3}, {5, 1, -2, -3}, {-5, -1, -2, -3}, {1, 1, 2, 1}, {-1, 1, 2, -1}, {1, 1, 3, 0}, {2, 1, 3, 1}, {-1, 1, 3, 0}, {-2, 1, 3, -1}, {m, m, m, m}, {0, 0, -1, 0}} {
		n, e := fixed.MulDiv(k[0], k[1], k[2])
		same(t, "P1.3", n, e, k[3], api.OK, "MulDiv", k[:3]...)
	}
	for _, a := range edges() {
		for _, b := range edges() {
			for _, c := range edges() {
				want, code := 0, api.ErrArg
				if c != 0 {
					want, code = expected(quotient(a, b, c))
				}
				n, e := fixed.MulDiv(a, b, c)
				same(t, "P1.3", n, e, want, code, "MulDiv", a, b, c)
			}
		}
	}
}

// P1.3: halves of either sign, and the results beside them, for small numbers one by one.
func TestMulDivHalves(t *testing.T) {
	for n := -40; n <= 40; n++ {
		for c := -12; c <= 12; c++ {
			if c == 0 {
				continue
			}
			want, code := expected(quotient(n, 1, c))
			got, e := fixed.MulDiv(n, 1, c)
			same(t, "P1.3", got, e, want, code, "MulDiv", n, 1, c)
		}
	}
	// The last length is reached by rounding from either side of it; what rounds beyond it is out of range.
	for _, k := range []struct {
		a, b, c, want int
		code          api.Errno
	}{
		{m, 3, 3, m, api.OK}, {m, m, m - 1, 0, api.ErrOver}, {-m, m, m - 1, 0, api.ErrOver},
		{715827882, 3, 2, m, api.OK}, {-715827882, 3, 2, -m, api.OK},
		{429496729, 5, 2, m, api.OK}, {429496729, -5, 2, -m, api.OK},
		{322122547, 10, 3, m, api.OK}, {322122547, 10, -3, -m, api.OK},
		{65535, 65537, 4, 0, api.ErrOver}, {65535, 65537, -4, 0, api.ErrOver},
		{357913941, 9, 3, m, api.OK}, {1, m, 1, m, api.OK}, {m, 2, 1, 0, api.ErrOver},
	} {
		n, e := fixed.MulDiv(k.a, k.b, k.c)
		same(t, "P1.3", n, e, k.want, k.code, "MulDiv", k.a, k.b, k.c)
	}
}

// P1.3: Half rounds down, for either sign.
func TestHalf(t *testing.T) {
	for a, want := range map[int]int{0: 0, 1: 0, 2: 1, 3: 1, -1: -1, -2: -1, -3: -2, -4: -2} {
		n, e := fixed.Half(a)
		same(t, "P1.3", n, e, want, api.OK, "Half", a)
	}
	for _, a := range edges() {
		n, e := fixed.Half(a)
		if e != api.OK || 2*n > a || 2*n < a-1 {
			t.Errorf("P1.3: Half(%d) is %d, %d", a, n, e)
		}
	}
}

// P1.4: MulDiv(a, c, c) is a.
func TestMulDivBack(t *testing.T) {
	for _, a := range edges() {
		for _, c := range edges() {
			if c != 0 {
				n, e := fixed.MulDiv(a, c, c)
				same(t, "P1.4", n, e, a, api.OK, "MulDiv", a, c, c)
			}
		}
	}
}

// P1.4: neither exchanging a and b nor changing two of the signs changes MulDiv.
func TestMulDivSigns(t *testing.T) {
	for _, a := range edges() {
		for _, b := range edges() {
			for _, c := range edges() {
				want, code := fixed.MulDiv(a, b, c)
				for _, l := range [][3]int{{b, a, c}, {-a, -b, c}, {-a, b, -c}, {a, -b, -c}} {
					n, e := fixed.MulDiv(l[0], l[1], l[2])
					same(t, "P1.4", n, e, want, code, "MulDiv", l[:]...)
				}
			}
		}
	}
}

// P1.4: where Sum of a list and of the reversed one both succeed, they are equal.
func TestSumReversed(t *testing.T) {
	both := 0
	for _, a := range edges() {
		for _, b := range edges() {
			for _, c := range edges() {
				n, e := fixed.Sum(a, b, c)
				back, f := fixed.Sum(c, b, a)
				if e != api.OK || f != api.OK {
					continue
				}
				both++
				if n != back || n != a+b+c {
					t.Errorf("P1.4: Sum of %d, %d, %d is %d, and reversed %d", a, b, c, n, back)
				}
			}
		}
	}
	if both == 0 {
		t.Error("P1.4: no list has a sum both ways")
	}
}

// P1.4: for b and c that are not negative, MulDiv does not decrease when a increases.
func TestMulDivGrows(t *testing.T) {
	rising := edges()
	for n := -30; n <= 30; n++ {
		rising = append(rising, n)
	}
	slices.Sort(rising)
	for _, b := range edges() {
		for _, c := range edges() {
			if b < 0 || c <= 0 {
				continue
			}
			last := -m
			for _, a := range rising {
				n, e := fixed.MulDiv(a, b, c)
				if e == api.OK && n < last {
					t.Errorf("P1.4: MulDiv(%d, %d, %d) is %d, below %d", a, b, c, n, last)
				}
				if e == api.OK {
					last = n
				}
			}
		}
	}
}

// R2: a list that is handed in stays as it is, whether the call succeeds or not.
func TestListsUnchanged(t *testing.T) {
	for _, l := range [][]int{{3, 2, 1}, {m, 1, -1}, {0, m + 1, 0}} {
		before := slices.Clone(l)
		fixed.Sum(l...)
		fixed.Is(l...)
		if !slices.Equal(l, before) {
			t.Errorf("R2: %v is now %v", before, l)
		}
	}
}
