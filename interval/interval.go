// Package interval is layer 1: intervals of integers, rounded outwards.
package interval

import "humpyard/api"

const (
	// maxFactor bounds num and den of Scale. MaxValue times maxFactor fits an int, so the numerators of Scale are exact.
	maxFactor = 1000000
	// maxRoot is the square root of MaxValue.
	maxRoot = 1000000
)

// Valid reports whether x is valid: see P1.1.
func Valid(x api.Interval) bool {
	return -api.MaxValue <= x.Lo && x.Lo <= x.Hi && x.Hi <= api.MaxValue
}

// Contains reports whether x is valid and n lies in it: see P1.1.
func Contains(x api.Interval, n int) bool {
	return Valid(x) && x.Lo <= n && n <= x.Hi
}

// Within reports whether x and y are valid and y contains all numbers of x: see P1.1.
func Within(x, y api.Interval) bool {
	return Valid(x) && Valid(y) && y.Lo <= x.Lo && x.Hi <= y.Hi
}

// Add returns the sums of a number of x and one of y: see P1.2.
func Add(x, y api.Interval) (api.Interval, api.Errno) {
	if !Valid(x) || !Valid(y) {
		return api.Interval{}, api.ErrInvalid
	}
	return limited(x.Lo+y.Lo, x.Hi+y.Hi)
}

// Sub returns the differences of a number of x minus one of y: see P1.2.
func Sub(x, y api.Interval) (api.Interval, api.Errno) {
	if !Valid(x) || !Valid(y) {
		return api.Interval{}, api.ErrInvalid
	}
	return limited(x.Lo-y.Hi, x.Hi-y.Lo)
}

// Mul returns the least interval with all products of a number of x and one of y: see P1.2.
func Mul(x, y api.Interval) (api.Interval, api.Errno) {
	if !Valid(x) || !Valid(y) {
		return api.Interval{}, api.ErrInvalid
	}
	// A product is monotone in each factor, so its extremes are products of ends; if one of these is too large, so is an end of the result.
	a, okA := product(x.Lo, y.Lo)
	b, okB := product(x.Lo, y.Hi)
	c, okC := product(x.Hi, y.Lo)
	d, okD := product(x.Hi, y.Hi)
	if !okA || !okB || !okC || !okD {
		return api.Interval{}, api.ErrOverflow
	}
	return api.Interval{Lo: min(a, b, c, d), Hi: max(a, b, c, d)}, api.OK
}

// Scale returns the least interval with n * num / den for all numbers n of x: see P1.3.
func Scale(x api.Interval, num, den int) (api.Interval, api.Errno) {
	switch {
	case !Valid(x):
		return api.Interval{}, api.ErrInvalid
	case !isFactor(num) || !isFactor(den):
		return api.Interval{}, api.ErrRange
	case den == 0:
		return api.Interval{}, api.ErrZero
	}
	least, greatest := x.Lo, x.Hi
	if (num < 0) != (den < 0) {
		least, greatest = greatest, least
	}
	lo, e := Floor(least*num, den)
	if e != api.OK {
		return api.Interval{}, e
	}
	hi, e := Ceil(greatest*num, den)
	if e != api.OK {
		return api.Interval{}, e
	}
	return api.Interval{Lo: lo, Hi: hi}, api.OK
}

// Root returns the least interval with the square roots of all numbers of x: see P1.3.
func Root(x api.Interval) (api.Interval, api.Errno) {
	switch {
	case !Valid(x):
		return api.Interval{}, api.ErrInvalid
	case x.Lo < 0:
		return api.Interval{}, api.ErrRange
	}
	lo, hi := floorRoot(x.Lo), floorRoot(x.Hi)
	if hi*hi < x.Hi {
		hi++
	}
	return api.Interval{Lo: lo, Hi: hi}, api.OK
}

// Hull returns the least interval that contains x and y: see P1.4.
func Hull(x, y api.Interval) (api.Interval, api.Errno) {
	if !Valid(x) || !Valid(y) {
		return api.Interval{}, api.ErrInvalid
	}
	return api.Interval{Lo: min(x.Lo, y.Lo), Hi: max(x.Hi, y.Hi)}, api.OK
}

// Meet returns the numbers that x and y both contain: see P1.4.
func Meet(x, y api.Interval) (api.Interval, api.Errno) {
	if !Valid(x) || !Valid(y) {
		return api.Interval{}, api.ErrInvalid
	}
	lo, hi := max(x.Lo, y.Lo), min(x.Hi, y.Hi)
	if lo > hi {
		return api.Interval{}, api.ErrNone
	}
	return api.Interval{Lo: lo, Hi: hi}, api.OK
}

// Floor returns a / b rounded down: see P1.5.
func Floor(a, b int) (int, api.Errno) {
	if b == 0 {
		return 0, api.ErrZero
	}
	q, r := a/b, a%b
	// Go rounds towards zero, which is upwards where the exact quotient is negative.
	if r != 0 && (r < 0) != (b < 0) {
		q--
	}
	return quotient(q)
}

// Ceil returns a / b rounded up: see P1.5.
func Ceil(a, b int) (int, api.Errno) {
	if b == 0 {
		return 0, api.ErrZero
	}
	q, r := a/b, a%b
	// Go rounds towards zero, which is downwards where the exact quotient is positive.
	if r != 0 && (r < 0) == (b < 0) {
		q++
	}
	return quotient(q)
}

// limited returns the interval from lo to hi, where lo is at most hi. Such an interval is valid unless an end is too large.
func limited(lo, hi int) (api.Interval, api.Errno) {
	x := api.Interval{Lo: lo, Hi: hi}
	if !Valid(x) {
		return api.Interval{}, api.ErrOverflow
	}
	return x, api.OK
}

// quotient returns q if it is not too large. The only quotient of two ints that wraps around is the least int by -1; it wraps to the least int, which is refused as the exact one would be.
func quotient(q int) (int, api.Errno) {
	if q < -api.MaxValue || api.MaxValue < q {
		return 0, api.ErrOverflow
	}
	return q, api.OK
}

// product multiplies two ends of valid intervals, and reports whether the result is from -MaxValue to MaxValue. It divides first, since the product may not fit an int.
func product(a, b int) (int, bool) {
	if a != 0 && max(b, -b) > api.MaxValue/max(a, -a) {
		return 0, false
	}
	return a * b, true
}

// isFactor reports whether Scale takes n as num or den.
func isFactor(n int) bool {
	return -maxFactor <= n && n <= maxFactor
}

// floorRoot returns the square root, rounded down, of an n from 0 to MaxValue.
func floorRoot(n int) int {
	low, high := 0, maxRoot
	for low < high {
		middle := (low + high + 1) / 2
		if middle*middle <= n {
			low = middle
		} else {
			high = middle - 1
		}
	}
	return low
}
