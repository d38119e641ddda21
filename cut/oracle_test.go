package cut_test

import (
	"math/rand/v2"
	"slices"

	"humpyard/api"
)

// This file says what the functions of package cut must return, from the definitions alone: each group of wagons is looked at as a whole, and no sums are kept.

// The limits, as numbers, so that a test fails if another limit is taken for one of them.
const (
	maxWagons = 96
	maxTracks = 32
	maxLength = 400
	maxAxles  = 8
	maxMass   = 2000
)

// validOf returns what Valid must return.
func validOf(l []api.Pushed, r api.CutRules) api.Errno {
	if r.Wagons < 1 || r.Wagons > 32 || r.Axles < 2 || r.Axles > 128 || r.Length < 80 || r.Length > 8000 {
		return api.ErrRange
	}
	if len(l) > maxWagons {
		return api.ErrLimit
	}
	for _, w := range l {
		if w.Length < 1 || w.Length > maxLength || w.Length > r.Length {
			return api.ErrInvalid
		}
		if w.Axles < 1 || w.Axles > maxAxles || w.Axles > r.Axles {
			return api.ErrInvalid
		}
		if w.Mass < 1 || w.Mass > maxMass || w.Track < 0 || w.Track > maxTracks-1 {
			return api.ErrInvalid
		}
	}
	return api.OK
}

// isOne says whether these wagons, which are valid, may be one cut.
func isOne(group []api.Pushed, r api.CutRules) bool {
	axles, length := 0, 0
	for _, w := range group {
		if w.Track != group[0].Track || w.Gentle && len(group) > 1 {
			return false
		}
		axles += w.Axles
		length += w.Length
	}
	return len(group) >= 1 && len(group) <= r.Wagons && axles <= r.Axles && length <= r.Length
}

// permittedOf returns what Permitted must return.
func permittedOf(l []api.Pushed, r api.CutRules, from, to int) (bool, api.Errno) {
	if e := validOf(l, r); e != api.OK {
		return false, e
	}
	if from < 0 || from > to || to > len(l) {
		return false, api.ErrRange
	}
	return isOne(l[from:to], r), api.OK
}

// divides says whether cuts divides wagons that are valid.
func divides(l []api.Pushed, r api.CutRules, cuts []api.Cut) bool {
	if len(cuts) == 0 {
		return len(l) == 0
	}
	if cuts[0].From != 0 || cuts[len(cuts)-1].To != len(l) {
		return false
	}
	for n, c := range cuts {
		if n > 0 && c.From != cuts[n-1].To || c.From < 0 || c.To > len(l) || c.From > c.To {
			return false
		}
		group := l[c.From:c.To]
		if !isOne(group, r) || c.Track != group[0].Track || c.Engine != slices.ContainsFunc(group, isGentle) {
			return false
		}
	}
	return true
}

func isGentle(w api.Pushed) bool { return w.Gentle }

// formOf returns what Form must return: of all wagons that may be one cut with the first one, the most are taken.
func formOf(l []api.Pushed, r api.CutRules) ([]api.Cut, api.Errno) {
	if e := validOf(l, r); e != api.OK {
		return nil, e
	}
	var cuts []api.Cut
	for from := 0; from < len(l); from = cuts[len(cuts)-1].To {
		to := len(l)
		for !isOne(l[from:to], r) {
			to--
		}
		cuts = append(cuts, api.Cut{From: from, To: to, Track: l[from].Track, Engine: l[from].Gentle})
	}
	return cuts, api.OK
}

// witnessOf returns what Witness must return.
func witnessOf(l []api.Pushed, r api.CutRules) ([]int, api.Errno) {
	cuts, e := formOf(l, r)
	var first []int
	for _, c := range cuts {
		first = append(first, c.From)
	}
	return first, e
}

// checkOf returns what Check must return.
func checkOf(l []api.Pushed, r api.CutRules, cuts []api.Cut) (bool, api.Errno) {
	if e := validOf(l, r); e != api.OK {
		return false, e
	}
	return divides(l, r, cuts), api.OK
}

// fewest returns the least number of cuts that divide wagons that are valid, reckoned from the end.
func fewest(l []api.Pushed, r api.CutRules) int {
	least := make([]int, len(l)+1)
	for from := len(l) - 1; from >= 0; from-- {
		least[from] = len(l) + 1
		for to := from + 1; to <= len(l); to++ {
			if isOne(l[from:to], r) {
				least[from] = min(least[from], 1+least[to])
			}
		}
	}
	return least[0]
}

// divisions returns all lists of cuts that divide the wagons from from on.
func divisions(l []api.Pushed, r api.CutRules, from int) [][]api.Cut {
	if from == len(l) {
		return [][]api.Cut{nil}
	}
	var all [][]api.Cut
	for to := from + 1; to <= len(l); to++ {
		if !isOne(l[from:to], r) {
			continue
		}
		first := api.Cut{From: from, To: to, Track: l[from].Track, Engine: l[from].Gentle}
		for _, rest := range divisions(l, r, to) {
			all = append(all, append([]api.Cut{first}, rest...))
		}
	}
	return all
}

// eachList calls visit with each list of up to most of these elements.
func eachList[E any](most int, elements []E, visit func(l []E)) {
	var extend func(l []E)
	extend = func(l []E) {
		visit(l)
		if len(l) == most {
			return
		}
		for _, x := range elements {
			extend(append(slices.Clone(l), x))
		}
	}
	extend(nil)
}

// randomRules returns rules, some of them narrow, some wide.
func randomRules(r *rand.Rand) api.CutRules {
	wide := api.CutRules{Wagons: 32, Axles: 128, Length: 8000}
	switch r.IntN(5) {
	case 0:
		return wide
	case 1:
		wide.Wagons = 1 + r.IntN(12)
	case 2:
		wide.Axles = 2 + r.IntN(60)
	case 3:
		wide.Length = 80 + r.IntN(2000)
	default:
		return api.CutRules{Wagons: 1 + r.IntN(32), Axles: 2 + r.IntN(127), Length: 80 + r.IntN(7921)}
	}
	return wide
}

// randomWagons returns n wagons that are valid under the rules, in groups to the same track, one of which is gentle now and then.
func randomWagons(r *rand.Rand, n int, rules api.CutRules) []api.Pushed {
	var l []api.Pushed
	track, change, gentle := r.IntN(maxTracks), 1+r.IntN(40), 1+r.IntN(40)
	for range n {
		if r.IntN(change) == 0 {
			track = r.IntN(maxTracks)
		}
		l = append(l, api.Pushed{
			Length: 1 + r.IntN(min(maxLength, rules.Length)),
			Axles:  1 + r.IntN(min(maxAxles, rules.Axles)),
			Mass:   1 + r.IntN(maxMass),
			Gentle: r.IntN(gentle) == 0,
			Track:  track,
		})
	}
	return l
}

// randomCuts returns cuts that divide wagons that are valid, mostly not the fewest.
func randomCuts(r *rand.Rand, l []api.Pushed, rules api.CutRules) []api.Cut {
	var cuts []api.Cut
	for from := 0; from < len(l); {
		to := from + 1
		for to < len(l) && isOne(l[from:to+1], rules) && r.IntN(5) > 0 {
			to++
		}
		cuts = append(cuts, api.Cut{From: from, To: to, Track: l[from].Track, Engine: l[from].Gentle})
		from = to
	}
	return cuts
}

func random(stream uint64) *rand.Rand {
	return rand.New(rand.NewPCG(18, stream))
}
