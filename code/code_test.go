package code_test

import (
	"math"
	"slices"
	"testing"

	"humpyard/api"
	"humpyard/code"
)

func sameIs(t *testing.T, k, round, weight int, want bool) {
	if got := code.Is(k, round, weight); got != want {
		t.Helper()
		t.Errorf("Is(%d, %d, %d): %v, want %v", k, round, weight, got, want)
	}
}

// sameNumber checks the result of one of the functions with three numbers.
func sameNumber(t *testing.T, name string, f func(n, round, weight int) (int, api.Errno), n, round, weight, want int, wantError api.Errno) {
	if got, e := f(n, round, weight); got != want || e != wantError {
		t.Helper()
		t.Errorf("%s(%d, %d, %d): %d, error %d; want %d, error %d", name, n, round, weight, got, e, want, wantError)
	}
}

func sameNext(t *testing.T, least, round, weight, want int, wantError api.Errno) {
	t.Helper()
	sameNumber(t, "Next", code.Next, least, round, weight, want, wantError)
}

func sameCount(t *testing.T, steps, round, weight, want int, wantError api.Errno) {
	t.Helper()
	sameNumber(t, "Count", code.Count, steps, round, weight, want, wantError)
}

func sameNth(t *testing.T, i, round, weight, want int, wantError api.Errno) {
	t.Helper()
	sameNumber(t, "Nth", code.Nth, i, round, weight, want, wantError)
}

func sameRank(t *testing.T, k, round, weight, want int, wantError api.Errno) {
	t.Helper()
	sameNumber(t, "Rank", code.Rank, k, round, weight, want, wantError)
}

func sameSteps(t *testing.T, k, want int, wantError api.Errno) {
	if got, e := code.Steps(k); got != want || e != wantError {
		t.Helper()
		t.Errorf("Steps(%d): %d, error %d; want %d, error %d", k, got, e, want, wantError)
	}
}

func sameReal(t *testing.T, k, round int, want []int, wantError api.Errno) {
	if got, e := code.Real(k, round); !slices.Equal(got, want) || e != wantError {
		t.Helper()
		t.Errorf("Real(%d, %d): %v, error %d; want %v, error %d", k, round, got, e, want, wantError)
	}
}

// The chapter names the limits as those of package api.
func TestP12Limits(t *testing.T) {
	if api.MaxSteps != maxSteps || api.MaxRounds-1 != maxRound || maxWeight != api.MaxSteps || codes != 1<<api.MaxSteps {
		t.Error("the tests have other limits than package api")
	}
}

// P12.1

func TestP12_1Is(t *testing.T) {
	for _, c := range []struct {
		k, round, weight int
		want             bool
	}{
		// no bit is missed
		{0, 0, 0, true}, {1, 0, 0, false}, {4, 0, 1, true}, {3, 0, 1, false}, {3, 0, 2, true},
		{2048, 0, 1, true}, {2048, 0, 0, false}, {4095, 0, 12, true}, {4095, 0, 11, false},
		// missed bits must be set, and are not counted
		{0, 1, 12, false}, {1, 1, 0, true}, {2, 1, 12, false}, {3, 1, 1, true}, {3, 1, 0, false},
		{3, 2, 0, true}, {7, 2, 0, false}, {7, 2, 1, true}, {5, 2, 12, false}, {6, 2, 12, false}, {11, 3, 12, false},
		{2047, 11, 0, true}, {4095, 11, 0, false}, {4095, 11, 1, true}, {3071, 11, 12, false},
		// all bits are missed
		{4095, 12, 0, true}, {4095, 12, 12, true}, {4094, 12, 12, false}, {2047, 12, 12, false}, {0, 12, 12, false},
		// a weight greater than the number of real bits
		{4095, 10, 12, true}, {1023, 10, 3, true}, {3071, 10, 2, true},
	} {
		sameIs(t, c.k, c.round, c.weight, c.want)
	}
}

// All codes, and numbers around them, with all rounds and weights, and those just beyond their ranges.
func TestP12_1IsAll(t *testing.T) {
	for k := -2; k <= 2*codes; k++ {
		for round := -1; round <= maxRound+1; round++ {
			for weight := -1; weight <= maxWeight+1; weight++ {
				if code.Is(k, round, weight) != isOf(k, round, weight) {
					t.Errorf("Is(%d, %d, %d): %v", k, round, weight, !isOf(k, round, weight))
				}
			}
		}
	}
}

// Is has no error: whatever is beyond its range makes it false.
func TestP12_1IsOutOfRange(t *testing.T) {
	for _, n := range integers() {
		sameIs(t, 0, 0, n, 0 <= n && n <= 12)
		sameIs(t, 4095, n, 12, 0 <= n && n <= 12)
		sameIs(t, n, 0, 12, 0 <= n && n <= 4095)
		sameIs(t, n, 12, 12, n == 4095)
		for _, m := range []int{-1, 13, math.MinInt, math.MaxInt} {
			sameIs(t, n, m, 12, false)
			sameIs(t, n, 0, m, false)
			sameIs(t, m, n, m, false)
			sameIs(t, 4095, m, n, false)
			sameIs(t, 4095, n, m, false)
			sameIs(t, n, m, m, false)
		}
		for _, round := range integers() {
			for _, weight := range integers() {
				sameIs(t, n, round, weight, isOf(n, round, weight))
			}
		}
	}
}

// P12.2

func TestP12_2Next(t *testing.T) {
	for _, c := range []struct {
		least, round, weight, want int
		e                          api.Errno
	}{
		// the examples
		{3, 0, 1, 4, api.OK}, {4, 2, 12, 7, api.OK}, {4, 2, 0, 0, api.ErrNone}, {3, 2, 0, 3, api.OK},
		// the first code of a form
		{0, 0, 0, 0, api.OK}, {0, 0, 12, 0, api.OK}, {0, 5, 3, 31, api.OK}, {30, 5, 3, 31, api.OK}, {0, 12, 0, 4095, api.OK}, {0, 12, 12, 4095, api.OK},
		// a least that is a code of the form
		{6, 0, 2, 6, api.OK}, {7, 2, 1, 7, api.OK}, {2047, 11, 0, 2047, api.OK}, {4095, 0, 12, 4095, api.OK}, {4095, 12, 5, 4095, api.OK},
		// a least that is none: too many real bits, some in one row
		{7, 0, 2, 8, api.OK}, {13, 0, 2, 16, api.OK}, {11, 0, 2, 12, api.OK}, {27, 0, 3, 28, api.OK}, {29, 0, 3, 32, api.OK}, {2047, 0, 10, 2048, api.OK}, {1365, 0, 3, 1408, api.OK},
		// a least that is none: a missed bit is not set
		{2, 1, 1, 3, api.OK}, {8, 3, 2, 15, api.OK}, {12, 2, 12, 15, api.OK}, {4080, 4, 12, 4095, api.OK}, {2048, 11, 1, 4095, api.OK},
		// both
		{6, 1, 1, 9, api.OK}, {12, 2, 1, 19, api.OK}, {28, 2, 2, 35, api.OK},
		// the last code of a form, and what is beyond it
		{2048, 0, 1, 2048, api.OK}, {2049, 0, 1, 0, api.ErrNone}, {3072, 0, 2, 3072, api.OK}, {3073, 0, 2, 0, api.ErrNone},
		{4095, 0, 11, 0, api.ErrNone}, {4094, 0, 11, 4094, api.OK}, {2051, 2, 1, 2051, api.OK}, {2052, 2, 1, 0, api.ErrNone},
		{1, 0, 0, 0, api.ErrNone}, {2048, 11, 0, 0, api.ErrNone}, {4095, 11, 0, 0, api.ErrNone},
		// beyond all codes
		{4096, 0, 12, 0, api.ErrNone}, {4096, 12, 12, 0, api.ErrNone}, {8191, 0, 0, 0, api.ErrNone}, {1 << 62, 0, 0, 0, api.ErrNone}, {math.MaxInt, 3, 12, 0, api.ErrNone}, {math.MaxInt, 0, 0, 0, api.ErrNone},
		// out of range
		{-1, 0, 12, 0, api.ErrRange}, {0, -1, 12, 0, api.ErrRange}, {0, 13, 12, 0, api.ErrRange}, {0, 0, -1, 0, api.ErrRange}, {0, 0, 13, 0, api.ErrRange},
	} {
		sameNext(t, c.least, c.round, c.weight, c.want, c.e)
	}
}

// Every least with every round and weight: from the top downwards, the next code is the last one that was passed.
func TestP12_2NextAll(t *testing.T) {
	for _, f := range forms() {
		want, e := 0, api.ErrNone
		for least := 2*codes + 1; least >= 0; least-- {
			if isOf(least, f.round, f.weight) {
				want, e = least, api.OK
			}
			sameNext(t, least, f.round, f.weight, want, e)
		}
	}
}

func TestP12_2Count(t *testing.T) {
	for _, c := range []struct {
		steps, round, weight, want int
		e                          api.Errno
	}{
		{3, 0, 2, 7, api.OK}, {3, 0, 1, 4, api.OK}, {3, 0, 0, 1, api.OK}, {3, 0, 3, 8, api.OK},
		// steps 0 and 12
		{0, 0, 0, 1, api.OK}, {0, 0, 12, 1, api.OK}, {0, 1, 12, 0, api.OK}, {0, 12, 12, 0, api.OK},
		{12, 0, 12, 4096, api.OK}, {12, 0, 11, 4095, api.OK}, {12, 0, 2, 79, api.OK}, {12, 0, 0, 1, api.OK}, {12, 12, 0, 1, api.OK}, {12, 12, 12, 1, api.OK},
		// as many steps as bits are missed, and one more or less
		{2, 3, 12, 0, api.OK}, {3, 3, 0, 1, api.OK}, {3, 3, 12, 1, api.OK}, {4, 3, 0, 1, api.OK}, {4, 3, 1, 2, api.OK}, {11, 12, 12, 0, api.OK},
		// a weight greater than the number of real bits
		{5, 3, 2, 4, api.OK}, {5, 3, 3, 4, api.OK}, {5, 3, 12, 4, api.OK}, {5, 3, 1, 3, api.OK}, {12, 10, 12, 4, api.OK},
		// out of range
		{-1, 0, 0, 0, api.ErrRange}, {13, 0, 0, 0, api.ErrRange}, {1, -1, 0, 0, api.ErrRange}, {1, 13, 0, 0, api.ErrRange}, {1, 0, -1, 0, api.ErrRange}, {1, 0, 13, 0, api.ErrRange},
		{math.MinInt, 0, 0, 0, api.ErrRange}, {math.MaxInt, 0, 0, 0, api.ErrRange}, {-1, 2, 12, 0, api.ErrRange}, {-1, 12, 12, 0, api.ErrRange},
	} {
		sameCount(t, c.steps, c.round, c.weight, c.want, c.e)
	}
}

func TestP12_2CountAll(t *testing.T) {
	for _, f := range forms() {
		for steps := -1; steps <= maxSteps+1; steps++ {
			want, e := countOf(steps, f)
			sameCount(t, steps, f.round, f.weight, want, e)
		}
	}
}

// Without missed bits, the counts are sums of binomials.
func TestP12_2CountBinomials(t *testing.T) {
	for h, row := range binomials(maxSteps) {
		sum := 0
		for weight, binomial := range row {
			sum += binomial
			sameCount(t, h, 0, weight, sum, api.OK)
			sameCount(t, maxSteps, maxSteps-h, weight, sum, api.OK)
		}
		sameCount(t, h, 0, 1, h+1, api.OK)
		sameCount(t, h, 0, 12, 1<<h, api.OK)
	}
}

func TestP12_2NthAndRank(t *testing.T) {
	for _, c := range []struct {
		round, weight int
		first         []int
		count, last   int
	}{
		{0, 0, []int{0}, 1, 0},
		{0, 1, []int{0, 1, 2, 4, 8, 16, 32}, 13, 2048},
		{0, 2, []int{0, 1, 2, 3, 4, 5, 6, 8, 9, 10, 12, 16, 17}, 79, 3072},
		{0, 11, []int{0, 1, 2, 3}, 4095, 4094},
		{0, 12, []int{0, 1, 2, 3, 4, 5}, 4096, 4095},
		{1, 1, []int{1, 3, 5, 9, 17}, 12, 2049},
		{2, 0, []int{3}, 1, 3},
		{2, 1, []int{3, 7, 11, 19}, 11, 2051},
		{2, 2, []int{3, 7, 11, 15, 19, 23, 27, 35}, 56, 3075},
		{10, 12, []int{1023, 2047, 3071, 4095}, 4, 4095},
		{10, 1, []int{1023, 2047, 3071}, 3, 3071},
		{11, 0, []int{2047}, 1, 2047},
		{11, 1, []int{2047, 4095}, 2, 4095},
		{12, 0, []int{4095}, 1, 4095},
		{12, 12, []int{4095}, 1, 4095},
	} {
		for i, k := range c.first {
			sameNth(t, i, c.round, c.weight, k, api.OK)
			sameRank(t, k, c.round, c.weight, i, api.OK)
		}
		sameNth(t, c.count-1, c.round, c.weight, c.last, api.OK)
		sameRank(t, c.last, c.round, c.weight, c.count-1, api.OK)
		for _, i := range []int{c.count, c.count + 1, 4096, 1 << 50, math.MaxInt} {
			sameNth(t, i, c.round, c.weight, 0, api.ErrNone)
		}
		sameNth(t, -1, c.round, c.weight, 0, api.ErrRange)
		sameNth(t, math.MinInt, c.round, c.weight, 0, api.ErrRange)
	}
}

// A number that is no code of the form has no rank, whether it is out of the range of codes or not.
func TestP12_2RankOfOthers(t *testing.T) {
	for _, k := range integers() {
		if k < 0 || k >= codes {
			sameRank(t, k, 0, 12, 0, api.ErrNone)
		}
		if k != 4095 {
			sameRank(t, k, 12, 12, 0, api.ErrNone)
		}
	}
	for _, c := range [][3]int{{1, 0, 0}, {3, 0, 1}, {4095, 0, 11}, {0, 1, 12}, {2, 1, 12}, {7, 2, 0}, {15, 2, 1}, {5, 2, 12}, {2047, 12, 12}} {
		sameRank(t, c[0], c[1], c[2], 0, api.ErrNone)
	}
}

// All indexes and all numbers up to twice the codes, with every round and weight.
func TestP12_2NthAndRankAll(t *testing.T) {
	for _, f := range forms() {
		ranks := map[int]int{}
		for i, k := range f.all {
			ranks[k] = i
			sameNth(t, i, f.round, f.weight, k, api.OK)
		}
		for i := len(f.all); i <= 2*codes; i++ {
			sameNth(t, i, f.round, f.weight, 0, api.ErrNone)
		}
		for k := -2; k <= 2*codes; k++ {
			want, e := 0, api.ErrNone
			if i, ok := ranks[k]; ok {
				want, e = i, api.OK
			}
			sameRank(t, k, f.round, f.weight, want, e)
		}
	}
}

// Count is the rank of the next code at 2^steps, or the number of all codes if there is none; Nth and Next go through the same codes.
func TestP12_2Consequences(t *testing.T) {
	for _, f := range forms() {
		for steps := range maxSteps + 1 {
			want := len(f.all)
			if k, e := code.Next(1<<steps, f.round, f.weight); e == api.OK {
				want, _ = code.Rank(k, f.round, f.weight)
			}
			sameCount(t, steps, f.round, f.weight, want, api.OK)
		}
		least := 0
		for i := range f.all {
			k, _ := code.Nth(i, f.round, f.weight)
			sameNext(t, least, f.round, f.weight, k, api.OK)
			sameIs(t, k, f.round, f.weight, true)
			least = k + 1
		}
		sameNext(t, least, f.round, f.weight, 0, api.ErrNone)
	}
}

// A number out of its range is reported before a code that does not exist.
func TestP12_2OrderOfErrors(t *testing.T) {
	for _, n := range []int{1, 3, 4095, 4096, math.MaxInt} {
		sameNext(t, n, 0, 0, 0, api.ErrNone)
		sameNth(t, n, 0, 0, 0, api.ErrNone)
		sameRank(t, n, 0, 0, 0, api.ErrNone)
		for _, m := range []int{-1, 13, math.MinInt, math.MaxInt} {
			for _, c := range [][2]int{{m, 0}, {0, m}, {m, m}, {m, 12}, {12, m}} {
				sameNext(t, n, c[0], c[1], 0, api.ErrRange)
				sameNth(t, n, c[0], c[1], 0, api.ErrRange)
				sameRank(t, n, c[0], c[1], 0, api.ErrRange)
				sameRank(t, -n, c[0], c[1], 0, api.ErrRange)
				sameCount(t, n, c[0], c[1], 0, api.ErrRange)
			}
		}
	}
}

// Each argument goes through numbers around all limits and the ends of int, with each of the others.
func TestP12_2OtherNumbers(t *testing.T) {
	numbers := integers()
	for _, round := range numbers {
		for _, weight := range numbers {
			f := formOf(round, weight)
			for _, n := range numbers {
				sameAsDefined(t, n, f)
			}
		}
	}
}

// sameAsDefined compares the functions of P12.2 with what they must return.
func sameAsDefined(t *testing.T, n int, f form) {
	t.Helper()
	want, e := nextOf(n, f)
	sameNext(t, n, f.round, f.weight, want, e)
	want, e = countOf(n, f)
	sameCount(t, n, f.round, f.weight, want, e)
	want, e = nthOf(n, f)
	sameNth(t, n, f.round, f.weight, want, e)
	want, e = rankOf(n, f)
	sameRank(t, n, f.round, f.weight, want, e)
}

// P12.3

func TestP12_3Steps(t *testing.T) {
	for _, c := range []struct{ k, want int }{
		{0, 0}, {1, 1}, {2, 2}, {3, 2}, {4, 3}, {7, 3}, {8, 4}, {1023, 10}, {1024, 11}, {2047, 11}, {2048, 12}, {4094, 12}, {4095, 12},
	} {
		sameSteps(t, c.k, c.want, api.OK)
	}
	for _, k := range []int{-1, -2, -4095, -4096, 4096, 4097, 8191, 1 << 32, math.MinInt, math.MinInt + 1, math.MaxInt} {
		sameSteps(t, k, 0, api.ErrRange)
	}
}

func TestP12_3StepsAll(t *testing.T) {
	for k := -2; k <= 2*codes; k++ {
		want, e := stepsOf(k)
		sameSteps(t, k, want, e)
	}
	for _, k := range integers() {
		want, e := stepsOf(k)
		sameSteps(t, k, want, e)
	}
}

// A code has one step more than the highest of its real bits, and as many as are missed if it has none.
func TestP12_3StepsOfReal(t *testing.T) {
	for _, f := range forms() {
		for _, k := range f.all {
			l, e := code.Real(k, f.round)
			want := f.round
			if len(l) > 0 {
				want = l[len(l)-1] + 1
			}
			if e != api.OK || len(l) > f.weight {
				t.Errorf("Real(%d, %d): %v, error %d", k, f.round, l, e)
			}
			sameSteps(t, k, want, api.OK)
		}
	}
}

func TestP12_3Real(t *testing.T) {
	for _, c := range []struct {
		k, round int
		want     []int
		e        api.Errno
	}{
		{0, 0, nil, api.OK}, {1, 0, []int{0}, api.OK}, {13, 0, []int{0, 2, 3}, api.OK}, {2048, 0, []int{11}, api.OK},
		{4095, 0, []int{0, 1, 2, 3, 4, 5, 6, 7, 8, 9, 10, 11}, api.OK},
		// missed bits are set, and not returned
		{1, 1, nil, api.OK}, {13, 1, []int{2, 3}, api.OK}, {3, 2, nil, api.OK}, {7, 2, []int{2}, api.OK}, {2051, 2, []int{11}, api.OK},
		{4095, 10, []int{10, 11}, api.OK}, {4095, 11, []int{11}, api.OK}, {2047, 11, nil, api.OK}, {4095, 12, nil, api.OK},
		// some missed bit is not set
		{0, 1, nil, api.ErrNone}, {2, 1, nil, api.ErrNone}, {13, 2, nil, api.ErrNone}, {14, 2, nil, api.ErrNone}, {4094, 12, nil, api.ErrNone}, {2047, 12, nil, api.ErrNone}, {0, 12, nil, api.ErrNone},
		// out of range
		{-1, 0, nil, api.ErrRange}, {4096, 0, nil, api.ErrRange}, {0, -1, nil, api.ErrRange}, {0, 13, nil, api.ErrRange}, {8191, 12, nil, api.ErrRange}, {-1, 12, nil, api.ErrRange},
		// both: a number out of its range is reported first
		{4096, 1, nil, api.ErrRange}, {-2, 2, nil, api.ErrRange}, {4096, 12, nil, api.ErrRange}, {0, 14, nil, api.ErrRange}, {4095, 13, nil, api.ErrRange}, {-1, -1, nil, api.ErrRange}, {math.MinInt, 13, nil, api.ErrRange}, {math.MaxInt, math.MinInt, nil, api.ErrRange},
	} {
		sameReal(t, c.k, c.round, c.want, c.e)
	}
}

func TestP12_3RealAll(t *testing.T) {
	for round := -1; round <= maxRound+1; round++ {
		for k := -2; k <= 2*codes; k++ {
			want, e := realOf(k, round)
			sameReal(t, k, round, want, e)
		}
	}
	for _, round := range integers() {
		for _, k := range integers() {
			want, e := realOf(k, round)
			sameReal(t, k, round, want, e)
		}
	}
}

// Writing into a result, up to its capacity, changes no other result.
func TestP12_3RealNewMemory(t *testing.T) {
	for round := range maxRound + 1 {
		for _, k := range formOf(round, maxWeight).all {
			first, _ := code.Real(k, round)
			want := slices.Clone(first)
			second, _ := code.Real(k, round)
			clear(first[:cap(first)])
			sameReal(t, k, round, want, api.OK)
			if !slices.Equal(second, want) {
				t.Errorf("Real(%d, %d): %v has become %v", k, round, want, second)
			}
		}
	}
}
