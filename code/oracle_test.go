package code_test

import (
	"math"
	"slices"

	"humpyard/api"
)

// This file says what the functions of package code must return, from the definitions alone.

// The limits, as numbers, so that a test fails if another limit is taken for one of them.
const (
	maxSteps  = 12
	maxRound  = 12
	maxWeight = 12
	codes     = 4096
)

// isRound says whether a round is in its range.
func isRound(round int) bool {
	return round >= 0 && round <= maxRound
}

// isForm says whether a round and a weight are in their ranges.
func isForm(round, weight int) bool {
	return isRound(round) && weight >= 0 && weight <= maxWeight
}

func isCode(k int) bool {
	return k >= 0 && k < codes
}

// bitsOf returns the bits that are set in a code, ascending, found by halving.
func bitsOf(k int) []int {
	var l []int
	for b := 0; k > 0; b++ {
		if k%2 == 1 {
			l = append(l, b)
		}
		k /= 2
	}
	return l
}

// parts returns how many missed bits of a code are set, and the real ones that are.
func parts(k, round int) (int, []int) {
	l := bitsOf(k)
	n := 0
	for n < len(l) && l[n] < round {
		n++
	}
	return n, l[n:]
}

// isOf says whether k is a code of the form.
func isOf(k, round, weight int) bool {
	if !isForm(round, weight) || !isCode(k) {
		return false
	}
	missed, rest := parts(k, round)
	return missed == round && len(rest) <= weight
}

// form is a round and a weight, with the codes of this form, ascending.
type form struct {
	round, weight int
	all           []int
}

// formOf returns a form. It has no codes if round or weight is not in its range.
func formOf(round, weight int) form {
	f := form{round: round, weight: weight}
	for k := range codes {
		if isOf(k, round, weight) {
			f.all = append(f.all, k)
		}
	}
	return f
}

// forms returns all forms.
func forms() []form {
	var l []form
	for round := range maxRound + 1 {
		for weight := range maxWeight + 1 {
			l = append(l, formOf(round, weight))
		}
	}
	return l
}

// nextOf returns what Next must return.
func nextOf(least int, f form) (int, api.Errno) {
	if !isForm(f.round, f.weight) || least < 0 {
		return 0, api.ErrRange
	}
	for _, k := range f.all {
		if k >= least {
			return k, api.OK
		}
	}
	return 0, api.ErrNone
}

// countOf returns what Count must return.
func countOf(steps int, f form) (int, api.Errno) {
	if !isForm(f.round, f.weight) || steps < 0 || steps > maxSteps {
		return 0, api.ErrRange
	}
	limit := 1
	for range steps {
		limit *= 2
	}
	n := 0
	for _, k := range f.all {
		if k < limit {
			n++
		}
	}
	return n, api.OK
}

// nthOf returns what Nth must return.
func nthOf(i int, f form) (int, api.Errno) {
	if !isForm(f.round, f.weight) || i < 0 {
		return 0, api.ErrRange
	}
	if i < len(f.all) {
		return f.all[i], api.OK
	}
	return 0, api.ErrNone
}

// rankOf returns what Rank must return.
func rankOf(k int, f form) (int, api.Errno) {
	if !isForm(f.round, f.weight) {
		return 0, api.ErrRange
	}
	if i := slices.Index(f.all, k); i >= 0 {
		return i, api.OK
	}
	return 0, api.ErrNone
}

// stepsOf returns what Steps must return.
func stepsOf(k int) (int, api.Errno) {
	if !isCode(k) {
		return 0, api.ErrRange
	}
	if k == 0 {
		return 0, api.OK
	}
	return slices.Max(bitsOf(k)) + 1, api.OK
}

// realOf returns what Real must return.
func realOf(k, round int) ([]int, api.Errno) {
	if !isRound(round) || !isCode(k) {
		return nil, api.ErrRange
	}
	missed, rest := parts(k, round)
	if missed != round {
		return nil, api.ErrNone
	}
	return rest, api.OK
}

// binomials returns the rows 0 to n of Pascal's triangle; beyond its end, each row has zeros.
func binomials(n int) [][]int {
	rows := make([][]int, n+1)
	for h := range rows {
		rows[h] = make([]int, n+1)
		rows[h][0] = 1
		for i := 1; i <= h; i++ {
			rows[h][i] = rows[h-1][i-1] + rows[h-1][i]
		}
	}
	return rows
}

// integers returns numbers around all limits, numbers that look like them in fewer bits, and the ends of int.
func integers() []int {
	l := []int{math.MinInt, math.MinInt + 1, math.MaxInt, math.MaxInt - 1}
	for _, n := range []int{0, 1, 2, 3, 6, 12, 13, 64, 79, 256, 2048, codes, 65536, 1 << 32, 1<<32 + 12, 1 << 62} {
		l = append(l, n-1, n, n+1, -n-1, -n, -n+1)
	}
	slices.Sort(l)
	return slices.Compact(l)
}
