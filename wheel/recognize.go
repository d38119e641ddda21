package wheel

import "humpyard/api"

const (
	maxPatterns = 16
	// maxPattern is the greatest number of distances of a pattern.
	maxPattern   = 5
	maxDistance  = 10000
	maxTolerance = 10000
)

// division is the best division of the axles from one axle to the end of a train: its cost, and the pattern of its first wagon. From there on, the division behind that wagon is the best one too.
type division struct {
	exists        bool
	cost, pattern int
}

// Recognize returns the division of d with the least cost, and this cost: see P7.3.
func Recognize(d []int, patterns [][]int, tolerance int) ([]int, int, api.Errno) {
	if e := validPatterns(d, patterns, tolerance); e != api.OK {
		return nil, 0, e
	}
	axles := len(d) + 1
	best := make([]division, axles+1)
	best[axles].exists = true
	for i := axles - 1; i >= 0; i-- {
		best[i] = divide(d[i:], patterns, tolerance, best[i:])
	}
	if !best[0].exists {
		return nil, 0, api.ErrNone
	}
	var list []int
	for i := 0; i < axles; {
		k := best[i].pattern
		list = append(list, k)
		i += axlesOf(patterns[k])
	}
	return list, best[0].cost, api.OK
}

// validPatterns returns the first error of the arguments of Recognize, but for ErrNone.
func validPatterns(d []int, patterns [][]int, tolerance int) api.Errno {
	if len(d) > api.MaxAxles || len(patterns) > maxPatterns {
		return api.ErrLimit
	}
	inRange := areDistances(d) && 0 <= tolerance && tolerance <= maxTolerance
	for _, p := range patterns {
		if len(p) > maxPattern {
			return api.ErrLimit
		}
		inRange = inRange && areDistances(p)
	}
	if !inRange {
		return api.ErrRange
	}
	return api.OK
}

// areDistances says whether each element of a list is in the range of a distance.
func areDistances(l []int) bool {
	for _, n := range l {
		if n < 1 || n > maxDistance {
			return false
		}
	}
	return true
}

// axlesOf returns the number of axles of a wagon with the pattern p.
func axlesOf(p []int) int {
	return len(p) + 1
}

// divide returns the best division of the axles between which the distances d are. best[i], for i above 0, is that of the axles from the one with the index i on.
func divide(d []int, patterns [][]int, tolerance int, best []division) division {
	var least division
	for k, p := range patterns {
		cost, fits := compare(d, p, tolerance)
		if !fits || !best[axlesOf(p)].exists {
			continue
		}
		cost += best[axlesOf(p)].cost
		// Of equal costs the first pattern stays, which makes the list the first one in the lexicographic order.
		if !least.exists || cost < least.cost {
			least = division{exists: true, cost: cost, pattern: k}
		}
	}
	return least
}

// compare returns the sum of the differences between the first distances of d and those of the pattern p. It does not fit if d has fewer distances, or if a difference is above the tolerance.
func compare(d, p []int, tolerance int) (sum int, fits bool) {
	if len(p) > len(d) {
		return 0, false
	}
	for i, n := range p {
		difference := max(d[i]-n, n-d[i])
		if difference > tolerance {
			return 0, false
		}
		sum += difference
	}
	return sum, true
}
