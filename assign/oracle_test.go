package assign_test

import (
	"math/rand/v2"
	"slices"

	"humpyard/api"
)

// This file says what the functions of package assign must return, from the definitions alone: assignments and refusals are found by trying all of them, and no list is sorted.

// The limits, as numbers, so that a test fails if another limit is taken for one of them.
const (
	maxTracks = 32
	longest   = 38400
)

// errorOf returns the error of lists that are not valid.
func errorOf(loads, tracks []int) api.Errno {
	if len(loads) > maxTracks || len(tracks) > maxTracks {
		return api.ErrLimit
	}
	for _, n := range loads {
		if n < 0 || n > longest {
			return api.ErrRange
		}
	}
	for _, n := range tracks {
		if n < 1 || n > longest {
			return api.ErrRange
		}
	}
	return api.OK
}

// matchOf returns what Match must return: at each length, from the greatest one down, the loads of this length are treated.
func matchOf(loads, tracks []int) (l, refusal []int, e api.Errno) {
	if e := errorOf(loads, tracks); e != api.OK {
		return nil, nil, e
	}
	l = make([]int, len(loads))
	for x := range l {
		l[x] = -1
	}
	for load := greatestOf(loads); load > 0; load-- {
		for x := range loads {
			if loads[x] != load {
				continue
			}
			if l[x] = trackFor(load, tracks, l); l[x] == -1 {
				return nil, treatedUpTo(x, loads), api.ErrRoom
			}
		}
	}
	return l, nil, api.OK
}

// greatestOf returns the greatest of some loads, or 0.
func greatestOf(loads []int) int {
	greatest := 0
	for _, n := range loads {
		greatest = max(greatest, n)
	}
	return greatest
}

// trackFor returns the track for a load if those in l are taken.
func trackFor(load int, tracks, l []int) int {
	for length := load; length <= longest; length++ {
		for y := range tracks {
			if tracks[y] == length && !slices.Contains(l, y) {
				return y
			}
		}
		if length > greatestOf(tracks) {
			break
		}
	}
	return -1
}

// treatedUpTo returns the indexes of the loads that are treated up to the load x, which is one of them.
func treatedUpTo(x int, loads []int) []int {
	var l []int
	for y, n := range loads {
		if n > loads[x] || n == loads[x] && y <= x {
			l = append(l, y)
		}
	}
	return l
}

// isAssignment says whether l is an assignment of valid lists.
func isAssignment(loads, tracks, l []int) bool {
	if len(l) != len(loads) {
		return false
	}
	for x, load := range loads {
		if load == 0 {
			if l[x] != -1 {
				return false
			}
			continue
		}
		if l[x] < 0 || l[x] >= len(tracks) || tracks[l[x]] < load {
			return false
		}
		for y := range x {
			if l[y] == l[x] {
				return false
			}
		}
	}
	return true
}

// isRefusal says whether l is a refusal of valid lists.
func isRefusal(loads, tracks, l []int) bool {
	if len(l) == 0 {
		return false
	}
	for n, x := range l {
		if x < 0 || x >= len(loads) || loads[x] <= 0 || n > 0 && l[n-1] >= x {
			return false
		}
	}
	// Counting the tracks from the least of the loads on is counting those that are long enough for one of them.
	enough := 0
	for _, length := range tracks {
		if slices.ContainsFunc(l, func(x int) bool { return loads[x] <= length }) {
			enough++
		}
	}
	return enough < len(l)
}

// hasAssignment says whether there is an assignment.
func hasAssignment(loads, tracks []int) bool {
	found := false
	eachList(len(loads), -1, len(tracks)-1, func(l []int) {
		found = found || isAssignment(loads, tracks, l)
	})
	return found
}

// hasRefusal says whether there is a refusal.
func hasRefusal(loads, tracks []int) bool {
	found := false
	for set := range 1 << len(loads) {
		var l []int
		for x := range loads {
			if set>>x&1 == 1 {
				l = append(l, x)
			}
		}
		found = found || isRefusal(loads, tracks, l)
	}
	return found
}

// eachList calls visit with each list of up to most numbers from least to greatest.
func eachList(most, least, greatest int, visit func(l []int)) {
	var extend func(l []int)
	extend = func(l []int) {
		visit(l)
		for x := least; x <= greatest && len(l) < most; x++ {
			extend(append(slices.Clone(l), x))
		}
	}
	extend(nil)
}

// eachYard calls visit with all short loads and tracks.
func eachYard(loads, tracks, greatest int, visit func(loads, tracks []int)) {
	eachList(loads, 0, greatest, func(l []int) {
		eachList(tracks, 1, greatest, func(m []int) { visit(l, m) })
	})
}

// randomLengths returns n lengths from least to greatest.
func randomLengths(r *rand.Rand, n, least, greatest int) []int {
	var l []int
	for range n {
		l = append(l, least+r.IntN(greatest-least+1))
	}
	return l
}

// randomYard returns as many loads as tracks, or a few more or less, most of which fit.
func randomYard(r *rand.Rand) (loads, tracks []int) {
	greatest := []int{3, 20, 200, longest}[r.IntN(4)]
	n := r.IntN(maxTracks + 1)
	tracks = randomLengths(r, n, 1, greatest)
	for _, y := range r.Perm(n) {
		switch r.IntN(4) {
		case 0:
			loads = append(loads, 0)
		case 1:
			loads = append(loads, tracks[y])
		default:
			loads = append(loads, r.IntN(tracks[y]+1))
		}
	}
	for range r.IntN(7) {
		if len(loads) > 0 {
			loads[r.IntN(len(loads))] = r.IntN(greatest + 1)
		}
		if r.IntN(2) == 0 && len(loads) < maxTracks {
			loads = append(loads, r.IntN(greatest+1))
		}
	}
	return loads, tracks
}

func random(stream uint64) *rand.Rand {
	return rand.New(rand.NewPCG(16, stream))
}
