package reconcile

import "humpyard/api"

// rest is the best script from a place to the end of both lists: its cost, and its first edit. Behind that edit, the rest from the next place follows.
type rest struct {
	cost, first int
}

// Align returns the first one of the scripts with the least cost, and this cost: see P8.1.
func Align(a, b []int) ([]int, int, api.Errno) {
	if tooLong(a, b) {
		return nil, 0, api.ErrLimit
	}
	rests := newTable[rest](a, b)
	for i := len(a); i >= 0; i-- {
		for j := len(b); j >= 0; j-- {
			rests[i][j] = bestRest(a, b, rests, i, j)
		}
	}
	var edits []int
	for i, j := 0, 0; i < len(a) || j < len(b); {
		number := rests[i][j].first
		edits = append(edits, number)
		i += kinds[number].announced
		j += kinds[number].measured
	}
	return edits, rests[0][0].cost, api.OK
}

// bestRest returns the best script from the place (i, j) on. At the end of both lists it is the zero value, since no edit is left.
func bestRest(a, b []int, rests [][]rest, i, j int) rest {
	var best rest
	exists := false
	for number, k := range possible(a[i:], b[j:]) {
		cost := k.cost + rests[i+k.announced][j+k.measured].cost
		// Of equal costs the first edit stays, which makes the script the first one in the lexicographic order.
		if !exists || cost < best.cost {
			best, exists = rest{cost: cost, first: number}, true
		}
	}
	return best
}
