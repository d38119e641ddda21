package interval_test

import (
	"math/big"
	"testing"

	"humpyard/api"
	"humpyard/interval"
)

// sameResults compares f with the expected results for all pairs of intervals from the list.
func sameResults(t *testing.T, name string, f, expected operation, l []api.Interval) {
	t.Helper()
	for _, x := range l {
		for _, y := range l {
			got, e := f(x, y)
			want, wantE := expected(x, y)
			if got != want || e != wantE {
				t.Fatalf("%s(%s, %s) = %s, error %d; want %s, error %d", name, text(x), text(y), text(got), e, text(want), wantE)
			}
		}
	}
}

type pairCase struct {
	name string
	f    operation
	x, y api.Interval
	want api.Interval
	e    api.Errno
}

func checkPairs(t *testing.T, l []pairCase) {
	t.Helper()
	for _, c := range l {
		if got, e := c.f(c.x, c.y); got != c.want || e != c.e {
			t.Errorf("%s(%s, %s) = %s, error %d; want %s, error %d", c.name, text(c.x), text(c.y), text(got), e, text(c.want), c.e)
		}
	}
}

// P1.1

func TestP1_1Valid(t *testing.T) {
	for _, c := range []struct {
		x    api.Interval
		want bool
	}{
		{iv(0, 0), true},
		{iv(-3, 5), true},
		{iv(5, -3), false},
		{iv(1, 0), false},
		{iv(-most, most), true},
		{iv(-most, -most), true},
		{iv(most, most), true},
		{iv(-most-1, 0), false},
		{iv(-most-1, -most-1), false},
		{iv(0, most+1), false},
		{iv(most+1, most+1), false},
		{iv(least, greatest), false},
		{iv(greatest, least), false},
	} {
		if got := interval.Valid(c.x); got != c.want {
			t.Errorf("Valid(%s) = %v", text(c.x), got)
		}
	}
	for _, x := range allIntervals(extremes()) {
		if got := interval.Valid(x); got != valid(x) {
			t.Errorf("Valid(%s) = %v", text(x), got)
		}
	}
}

func TestP1_1Contains(t *testing.T) {
	for _, c := range []struct {
		x    api.Interval
		n    int
		want bool
	}{
		{iv(-2, 3), -3, false},
		{iv(-2, 3), -2, true},
		{iv(-2, 3), 0, true},
		{iv(-2, 3), 3, true},
		{iv(-2, 3), 4, false},
		{iv(7, 7), 7, true},
		{iv(3, 2), 2, false},
		{iv(3, 2), 3, false},
		{iv(0, most+1), 1, false},
		{iv(-most-1, 0), 0, false},
		{iv(-most, most), most, true},
		{iv(-most, most), most + 1, false},
		{iv(-most, most), -most - 1, false},
		{iv(least, greatest), 0, false},
	} {
		if got := interval.Contains(c.x, c.n); got != c.want {
			t.Errorf("Contains(%s, %d) = %v", text(c.x), c.n, got)
		}
	}
	for _, x := range allIntervals(extremes()) {
		for _, n := range extremes() {
			want := valid(x) && x.Lo <= n && n <= x.Hi
			if got := interval.Contains(x, n); got != want {
				t.Errorf("Contains(%s, %d) = %v", text(x), n, got)
			}
		}
	}
}

func TestP1_1Within(t *testing.T) {
	for _, c := range []struct {
		x, y api.Interval
		want bool
	}{
		{iv(0, 1), iv(0, 1), true},
		{iv(0, 1), iv(-1, 1), true},
		{iv(0, 1), iv(0, 2), true},
		{iv(-1, 1), iv(0, 1), false},
		{iv(0, 2), iv(0, 1), false},
		{iv(0, 1), iv(2, 3), false},
		{iv(1, 0), iv(-5, 5), false},
		{iv(0, 1), iv(5, -5), false},
		{iv(1, 0), iv(1, 0), false},
		{iv(0, 1), iv(0, most+1), false},
		{iv(0, 1), iv(-most-1, 1), false},
		{iv(-most, most), iv(-most, most), true},
		{iv(0, 0), iv(least, greatest), false},
	} {
		if got := interval.Within(c.x, c.y); got != c.want {
			t.Errorf("Within(%s, %s) = %v", text(c.x), text(c.y), got)
		}
	}
	for _, l := range [][]api.Interval{allIntervals(numbers(-2, 3)), allIntervals(extremes())} {
		for _, x := range l {
			for _, y := range l {
				want := valid(x) && valid(y) && x.Lo >= y.Lo && x.Hi <= y.Hi
				if got := interval.Within(x, y); got != want {
					t.Errorf("Within(%s, %s) = %v", text(x), text(y), got)
				}
			}
		}
	}
}

// P1.2

func TestP1_2OrdinaryAndErrors(t *testing.T) {
	checkPairs(t, []pairCase{
		{"Add", interval.Add, iv(-2, 3), iv(-5, 4), iv(-7, 7), api.OK},
		{"Add", interval.Add, iv(1, 2), iv(10, 20), iv(11, 22), api.OK},
		{"Add", interval.Add, iv(-most, -most), iv(most, most), iv(0, 0), api.OK},
		{"Add", interval.Add, iv(0, most-1), iv(0, 1), iv(0, most), api.OK},
		{"Add", interval.Add, iv(0, most), iv(0, 1), iv(0, 0), api.ErrOverflow},
		{"Add", interval.Add, iv(-most, 0), iv(-1, 0), iv(0, 0), api.ErrOverflow},
		{"Add", interval.Add, iv(1, 0), iv(0, 0), iv(0, 0), api.ErrInvalid},
		{"Add", interval.Add, iv(0, 0), iv(1, 0), iv(0, 0), api.ErrInvalid},
		{"Add", interval.Add, iv(0, most), iv(0, most+1), iv(0, 0), api.ErrInvalid},
		{"Sub", interval.Sub, iv(-2, 3), iv(-5, 4), iv(-6, 8), api.OK},
		{"Sub", interval.Sub, iv(10, 20), iv(1, 2), iv(8, 19), api.OK},
		{"Sub", interval.Sub, iv(0, most), iv(0, 0), iv(0, most), api.OK},
		{"Sub", interval.Sub, iv(0, most), iv(-1, 0), iv(0, 0), api.ErrOverflow},
		{"Sub", interval.Sub, iv(-most, 0), iv(0, 1), iv(0, 0), api.ErrOverflow},
		{"Sub", interval.Sub, iv(-most, 0), iv(1, 0), iv(0, 0), api.ErrInvalid},
		{"Sub", interval.Sub, iv(1, 0), iv(0, 0), iv(0, 0), api.ErrInvalid},
		{"Sub", interval.Sub, iv(0, 0), iv(least, greatest), iv(0, 0), api.ErrInvalid},
		{"Mul", interval.Mul, iv(-2, 3), iv(-5, 4), iv(-15, 12), api.OK},
		{"Mul", interval.Mul, iv(-3, -2), iv(4, 5), iv(-15, -8), api.OK},
		{"Mul", interval.Mul, iv(-3, -2), iv(-5, -4), iv(8, 15), api.OK},
		{"Mul", interval.Mul, iv(2, 3), iv(4, 5), iv(8, 15), api.OK},
		{"Mul", interval.Mul, iv(0, 0), iv(-most, most), iv(0, 0), api.OK},
		{"Mul", interval.Mul, iv(-most, most), iv(0, 0), iv(0, 0), api.OK},
		{"Mul", interval.Mul, iv(-1, 1), iv(most, most), iv(-most, most), api.OK},
		{"Mul", interval.Mul, iv(1000000, 1000000), iv(1000000, 1000000), iv(most, most), api.OK},
		{"Mul", interval.Mul, iv(-1000000, 1), iv(0, 1000000), iv(-most, 1000000), api.OK},
		{"Mul", interval.Mul, iv(1000000, 1000001), iv(1000000, 1000000), iv(0, 0), api.ErrOverflow},
		{"Mul", interval.Mul, iv(-1000001, 0), iv(0, 1000000), iv(0, 0), api.ErrOverflow},
		{"Mul", interval.Mul, iv(-most, most), iv(-most, most), iv(0, 0), api.ErrOverflow},
		{"Mul", interval.Mul, iv(1<<32, 1<<32), iv(1<<32, 1<<32), iv(0, 0), api.ErrOverflow},
		{"Mul", interval.Mul, iv(most, most), iv(2, 1), iv(0, 0), api.ErrInvalid},
		{"Mul", interval.Mul, iv(2, 1), iv(most, most), iv(0, 0), api.ErrInvalid},
		{"Mul", interval.Mul, iv(0, 0), iv(0, most+1), iv(0, 0), api.ErrInvalid},
	})
}

func TestP1_2AllNumbersOfSmallIntervals(t *testing.T) {
	l := allIntervals(numbers(-4, 4))
	for _, c := range []struct {
		name string
		f    operation
		of   func(a, b int) int
	}{
		{"Add", interval.Add, func(a, b int) int { return a + b }},
		{"Sub", interval.Sub, func(a, b int) int { return a - b }},
		{"Mul", interval.Mul, func(a, b int) int { return a * b }},
	} {
		expected := func(x, y api.Interval) (api.Interval, api.Errno) { return fromAll(c.of, x, y) }
		sameResults(t, c.name, c.f, expected, l)
	}
}

func TestP1_2Extremes(t *testing.T) {
	l := allIntervals(extremes())
	for _, c := range []struct {
		name string
		f    operation
		of   func(z, a, b *big.Int) *big.Int
	}{
		{"Add", interval.Add, (*big.Int).Add},
		{"Sub", interval.Sub, (*big.Int).Sub},
		{"Mul", interval.Mul, (*big.Int).Mul},
	} {
		expected := func(x, y api.Interval) (api.Interval, api.Errno) { return fromEnds(c.of, x, y) }
		sameResults(t, c.name, c.f, expected, l)
	}
}

// P1.3

func TestP1_3ScaleOrdinaryAndErrors(t *testing.T) {
	for _, c := range []struct {
		x        api.Interval
		num, den int
		want     api.Interval
		e        api.Errno
	}{
		{iv(1, 10), 1, 3, iv(0, 4), api.OK},
		{iv(-10, 10), 1, 3, iv(-4, 4), api.OK},
		{iv(1, 10), -1, 3, iv(-4, 0), api.OK},
		{iv(1, 10), 1, -3, iv(-4, 0), api.OK},
		{iv(1, 10), -2, -4, iv(0, 5), api.OK},
		{iv(3, 9), 2, 3, iv(2, 6), api.OK},
		{iv(-7, 7), 0, -5, iv(0, 0), api.OK},
		{iv(-most, most), 1000000, 1000000, iv(-most, most), api.OK},
		{iv(-most, most), -1000000, 1000000, iv(-most, most), api.OK},
		{iv(-most, most-1), 1000000, -1000000, iv(-most+1, most), api.OK},
		{iv(most, most), 999999, 1000000, iv(999999000000, 999999000000), api.OK},
		{iv(0, most), 3, 2, iv(0, 0), api.ErrOverflow},
		{iv(-most, 0), 3, 2, iv(0, 0), api.ErrOverflow},
		{iv(-most, most), 1000000, -999999, iv(0, 0), api.ErrOverflow},
		{iv(0, most), 1000000, 1, iv(0, 0), api.ErrOverflow},
		{iv(0, 1), 1000001, 1, iv(0, 0), api.ErrRange},
		{iv(0, 1), -1000001, 1, iv(0, 0), api.ErrRange},
		{iv(0, 1), 1, 1000001, iv(0, 0), api.ErrRange},
		{iv(0, 1), 1, -1000001, iv(0, 0), api.ErrRange},
		{iv(0, 1), least, 1, iv(0, 0), api.ErrRange},
		{iv(0, 1), 1, greatest, iv(0, 0), api.ErrRange},
		{iv(0, most), 1000001, 0, iv(0, 0), api.ErrRange},
		{iv(0, most), 1000001, 1, iv(0, 0), api.ErrRange},
		{iv(0, most), 1000000, 0, iv(0, 0), api.ErrZero},
		{iv(0, 0), 0, 0, iv(0, 0), api.ErrZero},
		{iv(1, 0), 1, 1, iv(0, 0), api.ErrInvalid},
		{iv(1, 0), 1, 0, iv(0, 0), api.ErrInvalid},
		{iv(1, 0), 1000001, 0, iv(0, 0), api.ErrInvalid},
		{iv(0, most+1), 1, 2, iv(0, 0), api.ErrInvalid},
	} {
		if got, e := interval.Scale(c.x, c.num, c.den); got != c.want || e != c.e {
			t.Errorf("Scale(%s, %d, %d) = %s, error %d; want %s, error %d", text(c.x), c.num, c.den, text(got), e, text(c.want), c.e)
		}
	}
}

// sameScale compares Scale with the result for the numbers that pick takes from an interval.
func sameScale(t *testing.T, l []api.Interval, factors []int, pick func(x api.Interval) []int) {
	t.Helper()
	for _, x := range l {
		for _, num := range factors {
			for _, den := range factors {
				got, e := interval.Scale(x, num, den)
				want, wantE := scaled(x, pick(x), num, den)
				if got != want || e != wantE {
					t.Fatalf("Scale(%s, %d, %d) = %s, error %d; want %s, error %d", text(x), num, den, text(got), e, text(want), wantE)
				}
			}
		}
	}
}

func TestP1_3ScaleAllNumbersOfSmallIntervals(t *testing.T) {
	sameScale(t, allIntervals(numbers(-5, 5)), numbers(-4, 4), func(x api.Interval) []int { return numbers(x.Lo, x.Hi) })
}

func TestP1_3ScaleExtremes(t *testing.T) {
	factors := append(extremes(), -999999, -3, -2, 3, 7)
	sameScale(t, allIntervals(extremes()), factors, func(x api.Interval) []int { return []int{x.Lo, x.Hi} })
}

func TestP1_3RootOrdinaryAndErrors(t *testing.T) {
	for _, c := range []struct {
		x, want api.Interval
		e       api.Errno
	}{
		{iv(2, 16), iv(1, 4), api.OK},
		{iv(2, 17), iv(1, 5), api.OK},
		{iv(0, 0), iv(0, 0), api.OK},
		{iv(0, 1), iv(0, 1), api.OK},
		{iv(1, 1), iv(1, 1), api.OK},
		{iv(3, 3), iv(1, 2), api.OK},
		{iv(4, 8), iv(2, 3), api.OK},
		{iv(0, most), iv(0, 1000000), api.OK},
		{iv(most, most), iv(1000000, 1000000), api.OK},
		{iv(most-1, most-1), iv(999999, 1000000), api.OK},
		{iv(-1, 4), iv(0, 0), api.ErrRange},
		{iv(-most, -1), iv(0, 0), api.ErrRange},
		{iv(-1, -2), iv(0, 0), api.ErrInvalid},
		{iv(5, 4), iv(0, 0), api.ErrInvalid},
		{iv(0, most+1), iv(0, 0), api.ErrInvalid},
		{iv(-most-1, 0), iv(0, 0), api.ErrInvalid},
		{iv(least, greatest), iv(0, 0), api.ErrInvalid},
		{iv(greatest, greatest), iv(0, 0), api.ErrInvalid},
	} {
		if got, e := interval.Root(c.x); got != c.want || e != c.e {
			t.Errorf("Root(%s) = %s, error %d; want %s, error %d", text(c.x), text(got), e, text(c.want), c.e)
		}
	}
}

func TestP1_3RootAroundAllSquares(t *testing.T) {
	for r := 2; r <= 1000000; r++ {
		got, e := interval.Root(iv(r*r-1, r*r))
		if got != iv(r-1, r) || e != api.OK {
			t.Fatalf("Root from %d^2 - 1 to its square = %s, error %d", r, text(got), e)
		}
		if r == 1000000 {
			break
		}
		got, e = interval.Root(iv(r*r, r*r+1))
		if got != iv(r, r+1) || e != api.OK {
			t.Fatalf("Root from %d^2 to its square + 1 = %s, error %d", r, text(got), e)
		}
	}
}

// P1.4

func TestP1_4OrdinaryAndErrors(t *testing.T) {
	checkPairs(t, []pairCase{
		{"Hull", interval.Hull, iv(1, 2), iv(5, 6), iv(1, 6), api.OK},
		{"Hull", interval.Hull, iv(5, 6), iv(1, 2), iv(1, 6), api.OK},
		{"Hull", interval.Hull, iv(1, 9), iv(3, 4), iv(1, 9), api.OK},
		{"Hull", interval.Hull, iv(3, 4), iv(1, 9), iv(1, 9), api.OK},
		{"Hull", interval.Hull, iv(-most, -most), iv(most, most), iv(-most, most), api.OK},
		{"Hull", interval.Hull, iv(2, 1), iv(5, 6), iv(0, 0), api.ErrInvalid},
		{"Hull", interval.Hull, iv(5, 6), iv(2, 1), iv(0, 0), api.ErrInvalid},
		{"Hull", interval.Hull, iv(0, 1), iv(0, most+1), iv(0, 0), api.ErrInvalid},
		{"Meet", interval.Meet, iv(1, 5), iv(3, 9), iv(3, 5), api.OK},
		{"Meet", interval.Meet, iv(3, 9), iv(1, 5), iv(3, 5), api.OK},
		{"Meet", interval.Meet, iv(1, 9), iv(3, 4), iv(3, 4), api.OK},
		{"Meet", interval.Meet, iv(1, 2), iv(2, 4), iv(2, 2), api.OK},
		{"Meet", interval.Meet, iv(1, 2), iv(3, 4), iv(0, 0), api.ErrNone},
		{"Meet", interval.Meet, iv(3, 4), iv(1, 2), iv(0, 0), api.ErrNone},
		{"Meet", interval.Meet, iv(1, 2), iv(4, 3), iv(0, 0), api.ErrInvalid},
		{"Meet", interval.Meet, iv(4, 3), iv(1, 2), iv(0, 0), api.ErrInvalid},
		{"Meet", interval.Meet, iv(-most-1, 0), iv(-5, 5), iv(0, 0), api.ErrInvalid},
		{"Meet", interval.Meet, iv(-5, 5), iv(least, greatest), iv(0, 0), api.ErrInvalid},
	})
}

func expectedHull(x, y api.Interval) (api.Interval, api.Errno) {
	if !valid(x) || !valid(y) {
		return api.Interval{}, api.ErrInvalid
	}
	return iv(min(x.Lo, y.Lo), max(x.Hi, y.Hi)), api.OK
}

func expectedMeet(x, y api.Interval) (api.Interval, api.Errno) {
	switch {
	case !valid(x) || !valid(y):
		return api.Interval{}, api.ErrInvalid
	case x.Hi < y.Lo || y.Hi < x.Lo:
		return api.Interval{}, api.ErrNone
	}
	return iv(max(x.Lo, y.Lo), min(x.Hi, y.Hi)), api.OK
}

func TestP1_4AllIntervals(t *testing.T) {
	for _, ends := range [][]int{numbers(-3, 3), extremes()} {
		l := allIntervals(ends)
		sameResults(t, "Hull", interval.Hull, expectedHull, l)
		sameResults(t, "Meet", interval.Meet, expectedMeet, l)
	}
}

// P1.5

func TestP1_5OrdinaryAndErrors(t *testing.T) {
	for _, c := range []struct {
		a, b   int
		floor  int
		floorE api.Errno
		ceil   int
		ceilE  api.Errno
		what   string
	}{
		{-7, 2, -4, api.OK, -3, api.OK, "a negative fraction"},
		{7, 2, 3, api.OK, 4, api.OK, "a positive fraction"},
		{7, -2, -4, api.OK, -3, api.OK, "a negative divisor"},
		{-7, -2, 3, api.OK, 4, api.OK, "two negative numbers"},
		{6, 3, 2, api.OK, 2, api.OK, "a multiple"},
		{-6, 3, -2, api.OK, -2, api.OK, "a negative multiple"},
		{1, 5, 0, api.OK, 1, api.OK, "less than one"},
		{-1, 5, -1, api.OK, 0, api.OK, "more than minus one"},
		{0, -5, 0, api.OK, 0, api.OK, "zero"},
		{5, 0, 0, api.ErrZero, 0, api.ErrZero, "a division by zero"},
		{0, 0, 0, api.ErrZero, 0, api.ErrZero, "zero by zero"},
		{greatest, 0, 0, api.ErrZero, 0, api.ErrZero, "the greatest int by zero"},
		{most, 1, most, api.OK, most, api.OK, "the limit"},
		{most, -1, -most, api.OK, -most, api.OK, "the lower limit"},
		{most + 1, 1, 0, api.ErrOverflow, 0, api.ErrOverflow, "beyond the limit"},
		{-most - 1, 1, 0, api.ErrOverflow, 0, api.ErrOverflow, "beyond the lower limit"},
		{2*most + 1, 2, most, api.OK, 0, api.ErrOverflow, "half beyond the limit"},
		{-2*most - 1, 2, 0, api.ErrOverflow, -most, api.OK, "half beyond the lower limit"},
		{2*most - 1, 2, most - 1, api.OK, most, api.OK, "half below the limit"},
		{-2*most + 1, 2, -most, api.OK, -most + 1, api.OK, "half above the lower limit"},
		{least, -1, 0, api.ErrOverflow, 0, api.ErrOverflow, "the quotient that wraps around"},
		{least, 1, 0, api.ErrOverflow, 0, api.ErrOverflow, "the least int"},
		{greatest, 1, 0, api.ErrOverflow, 0, api.ErrOverflow, "the greatest int"},
		{least, least, 1, api.OK, 1, api.OK, "the least int by itself"},
		{greatest, least, -1, api.OK, 0, api.OK, "the greatest int by the least"},
		{least, greatest, -2, api.OK, -1, api.OK, "the least int by the greatest"},
		{least, 1 << 30, -1 << 33, api.OK, -1 << 33, api.OK, "the least int by a power"},
		{1, least, -1, api.OK, 0, api.OK, "one by the least int"},
		{-1, least, 0, api.OK, 1, api.OK, "minus one by the least int"},
	} {
		if got, e := interval.Floor(c.a, c.b); got != c.floor || e != c.floorE {
			t.Errorf("%s: Floor(%d, %d) = %d, error %d; want %d, error %d", c.what, c.a, c.b, got, e, c.floor, c.floorE)
		}
		if got, e := interval.Ceil(c.a, c.b); got != c.ceil || e != c.ceilE {
			t.Errorf("%s: Ceil(%d, %d) = %d, error %d; want %d, error %d", c.what, c.a, c.b, got, e, c.ceil, c.ceilE)
		}
	}
}

func TestP1_5SmallAndExtremes(t *testing.T) {
	small := numbers(-20, 20)
	for _, l := range [][2][]int{{small, small}, {dividends(), divisors()}, {small, divisors()}, {dividends(), small}} {
		for _, a := range l[0] {
			for _, b := range l[1] {
				got, e := interval.Floor(a, b)
				want, wantE := ratio(floorRatio, a, b)
				if got != want || e != wantE {
					t.Errorf("Floor(%d, %d) = %d, error %d; want %d, error %d", a, b, got, e, want, wantE)
				}
				got, e = interval.Ceil(a, b)
				want, wantE = ratio(ceilRatio, a, b)
				if got != want || e != wantE {
					t.Errorf("Ceil(%d, %d) = %d, error %d; want %d, error %d", a, b, got, e, want, wantE)
				}
			}
		}
	}
}

// Consequences

// growing checks that f is monotone: results of intervals within others are within their results.
func growing(t *testing.T, name string, f func(x api.Interval) (api.Interval, api.Errno), l []api.Interval) {
	t.Helper()
	for _, x := range l {
		for _, y := range l {
			if !interval.Within(x, y) {
				continue
			}
			small, e := f(x)
			large, g := f(y)
			if g == api.OK && (e != api.OK || !interval.Within(small, large)) {
				t.Errorf("%s: %s is not within %s for %s in %s", name, text(small), text(large), text(x), text(y))
			}
		}
	}
}

func TestMonotone(t *testing.T) {
	l := allIntervals(numbers(-3, 3))
	for _, c := range []struct {
		name string
		f    operation
	}{
		{"Add", interval.Add}, {"Sub", interval.Sub}, {"Mul", interval.Mul}, {"Hull", interval.Hull},
	} {
		for _, y := range l {
			growing(t, c.name, func(x api.Interval) (api.Interval, api.Errno) { return c.f(x, y) }, l)
			growing(t, c.name, func(x api.Interval) (api.Interval, api.Errno) { return c.f(y, x) }, l)
		}
	}
	for _, num := range numbers(-3, 3) {
		for _, den := range []int{-3, -2, -1, 1, 2, 3} {
			growing(t, "Scale", func(x api.Interval) (api.Interval, api.Errno) { return interval.Scale(x, num, den) }, l)
		}
	}
	growing(t, "Root", interval.Root, allIntervals(numbers(0, 26)))
}

func TestCommutative(t *testing.T) {
	for _, ends := range [][]int{numbers(-3, 3), extremes()} {
		l := allIntervals(ends)
		sameResults(t, "Add", interval.Add, func(x, y api.Interval) (api.Interval, api.Errno) { return interval.Add(y, x) }, l)
		sameResults(t, "Mul", interval.Mul, func(x, y api.Interval) (api.Interval, api.Errno) { return interval.Mul(y, x) }, l)
	}
}
