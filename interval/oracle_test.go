package interval_test

import (
	"math/big"
	"strconv"

	"humpyard/api"
)

// This file says what the functions of package interval must return, from the definitions and with numbers of any size.

const (
	most     = api.MaxValue
	greatest = 1<<63 - 1
	least    = -1 << 63
)

type operation func(x, y api.Interval) (api.Interval, api.Errno)

func iv(lo, hi int) api.Interval { return api.Interval{Lo: lo, Hi: hi} }

func text(x api.Interval) string {
	return strconv.Itoa(x.Lo) + ".." + strconv.Itoa(x.Hi)
}

func valid(x api.Interval) bool {
	return x.Lo <= x.Hi && -most <= x.Lo && x.Lo <= most && -most <= x.Hi && x.Hi <= most
}

// allIntervals returns the intervals, valid or not, with ends from the list.
func allIntervals(ends []int) []api.Interval {
	var l []api.Interval
	for _, lo := range ends {
		for _, hi := range ends {
			l = append(l, iv(lo, hi))
		}
	}
	return l
}

func numbers(from, to int) []int {
	var l []int
	for n := from; n <= to; n++ {
		l = append(l, n)
	}
	return l
}

// extremes are ends of intervals: the ends of int, the limits and their neighbours, and numbers whose products wrap around to small ones.
func extremes() []int {
	return []int{least, least + 1, -most - 1, -most, -most + 1, -1 << 32, -1000001, -1000000, -1, 0, 1, 2, 999999, 1000000, 1000001, 1 << 32, most - 1, most, most + 1, greatest - 1, greatest}
}

// dividends and divisors meet at MaxValue and its neighbours: 2^63 / 9223372 is above it, and 2^63 / 9223373 below it.
func dividends() []int {
	return append(extremes(), -2*most-1, -2*most, -2*most+1, 2*most-1, 2*most, 2*most+1, -9223372036854775, 9223372036854775, -7, -6, -3, 3, 6, 7)
}

func divisors() []int {
	return append(extremes(), -9223373, -9223372, -9223371, 9223371, 9223372, 9223373, -7, -3, -2, 3, 7)
}

// floorRatio returns a / b, rounded down, for a b that is not 0.
func floorRatio(a, b *big.Int) *big.Int {
	if b.Sign() < 0 {
		a, b = new(big.Int).Neg(a), new(big.Int).Neg(b)
	}
	// Div is Euclidean, which is rounded down for a positive divisor.
	return new(big.Int).Div(a, b)
}

func ceilRatio(a, b *big.Int) *big.Int {
	q := floorRatio(new(big.Int).Neg(a), b)
	return q.Neg(q)
}

func inLimits(n *big.Int) bool {
	return n.CmpAbs(big.NewInt(most)) <= 0
}

// span returns the least interval with all the numbers, or ErrOverflow.
func span(l ...*big.Int) (api.Interval, api.Errno) {
	lo, hi := l[0], l[0]
	for _, n := range l {
		if n.Cmp(lo) < 0 {
			lo = n
		}
		if n.Cmp(hi) > 0 {
			hi = n
		}
	}
	if !inLimits(lo) || !inLimits(hi) {
		return api.Interval{}, api.ErrOverflow
	}
	return iv(int(lo.Int64()), int(hi.Int64())), api.OK
}

// fromEnds applies f to the ends of x and y, among which are the extremes of sums, differences and products.
func fromEnds(f func(z, a, b *big.Int) *big.Int, x, y api.Interval) (api.Interval, api.Errno) {
	if !valid(x) || !valid(y) {
		return api.Interval{}, api.ErrInvalid
	}
	var l []*big.Int
	for _, a := range []int{x.Lo, x.Hi} {
		for _, b := range []int{y.Lo, y.Hi} {
			l = append(l, f(new(big.Int), big.NewInt(int64(a)), big.NewInt(int64(b))))
		}
	}
	return span(l...)
}

// fromAll applies f to all numbers of two small intervals.
func fromAll(f func(a, b int) int, x, y api.Interval) (api.Interval, api.Errno) {
	if !valid(x) || !valid(y) {
		return api.Interval{}, api.ErrInvalid
	}
	var l []*big.Int
	for a := x.Lo; a <= x.Hi; a++ {
		for b := y.Lo; b <= y.Hi; b++ {
			l = append(l, big.NewInt(int64(f(a, b))))
		}
	}
	return span(l...)
}

// scaled applies num / den to the numbers of l, which lie in x.
func scaled(x api.Interval, l []int, num, den int) (api.Interval, api.Errno) {
	switch {
	case !valid(x):
		return api.Interval{}, api.ErrInvalid
	case num < -1000000 || num > 1000000 || den < -1000000 || den > 1000000:
		return api.Interval{}, api.ErrRange
	case den == 0:
		return api.Interval{}, api.ErrZero
	}
	var ends []*big.Int
	for _, n := range l {
		a := new(big.Int).Mul(big.NewInt(int64(n)), big.NewInt(int64(num)))
		b := big.NewInt(int64(den))
		ends = append(ends, floorRatio(a, b), ceilRatio(a, b))
	}
	return span(ends...)
}

// ratio rounds a / b with round.
func ratio(round func(a, b *big.Int) *big.Int, a, b int) (int, api.Errno) {
	if b == 0 {
		return 0, api.ErrZero
	}
	q := round(big.NewInt(int64(a)), big.NewInt(int64(b)))
	if !inLimits(q) {
		return 0, api.ErrOverflow
	}
	return int(q.Int64()), api.OK
}
