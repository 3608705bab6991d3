// Package fixed is layer 1: see shared/doc/01-fixed.md.
package fixed

import "vinculum/api"

// Is: are all lengths?
func Is(l ...int) bool {
	for _, n := range l {
		if n < -api.MaxLen || n > api.MaxLen {
			return false
		}
	}
	return true
}

// Add: two together.
func Add(a, b int) (int, api.Errno) { return Sum(a, b) }

// Sum: all together.
func Sum(l ...int) (int, api.Errno) {
	if !Is(l...) {
		return 0, api.ErrArg
	}
	return caught(func() int {
		sum := 0
		for _, n := range l {
			sum = within(int64(sum) + int64(n))
		}
		return sum
	})
}

// Times: one, so many times.
func Times(a, n int) (int, api.Errno) {
	if !Is(a) {
		return 0, api.ErrArg
	}
	if a == 0 {
		return 0, api.OK
	}
	// As a is not 0, the product is no length where n is none: to ask n first keeps the product from wrapping round.
	return caught(func() int { return within(int64(a) * int64(within(int64(n)))) })
}

// MulDiv: a times b, by c.
func MulDiv(a, b, c int) (int, api.Errno) {
	if !Is(a, b, c) || c == 0 {
		return 0, api.ErrArg
	}
	// The product of two lengths is below 2^60, so an int64 holds it whole.
	return caught(func() int { return within(nearest(int64(a)*int64(b), int64(c))) })
}

// Half: one by two.
func Half(a int) (int, api.Errno) {
	if !Is(a) {
		return 0, api.ErrArg
	}
	// A shift rounds down for either sign, where a division would round towards 0.
	return a >> 1, api.OK
}

// nearest divides, and rounds halves away from 0.
func nearest(n, by int64) int64 {
	whole, rest := n/by, n%by
	if 2*size(rest) < size(by) {
		return whole
	}
	// Go rounds towards 0, and whole may be 0: only n and by tell which way is away.
	if (n < 0) == (by < 0) {
		return whole + 1
	}
	return whole - 1
}

func size(n int64) int64 {
	if n < 0 {
		return -n
	}
	return n
}

// within raises a number that is no length, for caught to answer.
func within(n int64) int {
	if n < -api.MaxLen || n > api.MaxLen {
		panic(api.ErrOver)
	}
	return int(n)
}

// caught answers what work does, or ErrOver: nothing but within panics in it.
func caught(work func() int) (n int, e api.Errno) {
	defer func() {
		if recover() != nil {
			n, e = 0, api.ErrOver
		}
	}()
	return work(), api.OK
}
