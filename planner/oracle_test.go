package planner_test

import (
	"math/rand/v2"
	"slices"

	"humpyard/api"
	"humpyard/assign"
	"humpyard/certificate"
	"humpyard/consist"
	"humpyard/job"
)

// This file says what the functions of package planner must return, from the definitions alone: least codes are found by raising codes until all items are in order, and what a plan needs is reckoned from the bits of its codes. The functions of lower layers that a promise names are called.

// The limits, as numbers, so that a test fails if another limit is taken for one of them.
const (
	maxWagons = 96
	maxTrains = 16
	maxBlocks = 32
	maxRound  = 12
	maxSteps  = 12
	maxTracks = 32
	maxLength = 400
	longest   = 38400
	codes     = 4096
)

// weights returns the weights of the schemes.
func weights() []int { return []int{0, 1, 2, 12} }

// itemsOf returns what Items must return.
func itemsOf(orders []api.Order, l []api.Wagon) ([]api.Item, api.Errno) {
	if len(orders) > maxTrains || len(l) > maxWagons {
		return nil, api.ErrLimit
	}
	for _, o := range orders {
		if len(o.Blocks) > maxBlocks {
			return nil, api.ErrLimit
		}
	}
	var items []api.Item
	for _, w := range l {
		if e := consist.Valid(w); e != api.OK {
			return nil, e
		}
		x := api.Item{Train: -1, Length: w.Length}
		// Going back, the first place is the one that stays.
		for t, o := range slices.Backward(orders) {
			for b, dest := range slices.Backward(o.Blocks) {
				if dest == w.Dest {
					x.Train, x.Block = t, b
				}
			}
		}
		if x.Train < 0 {
			return nil, api.ErrMissing
		}
		items = append(items, x)
	}
	return items, api.OK
}

// isSet says whether the bit b of a code is set.
func isSet(k, b int) bool {
	for range b {
		k /= 2
	}
	return k%2 == 1
}

// isOf says whether a number from 0 to 4095 is a code of the form.
func isOf(k, round, weight int) bool {
	for b := range maxSteps {
		switch {
		case b < round && !isSet(k, b):
			return false
		case b >= round && isSet(k, b):
			weight--
		}
	}
	return weight >= 0
}

// demandOf returns the least number that the code of the item y may be because of the item x with the code k.
func demandOf(items []api.Item, x, k, y int) int {
	a, b := items[x], items[y]
	if a.Train != b.Train || a.Block >= b.Block {
		return 0
	}
	if y < x {
		return k + 1
	}
	return k
}

// leastOf returns the least codes of items that are a valid job; it is false if an item has none. No code is raised further than the others demand.
func leastOf(items []api.Item, weight int) ([]int, bool) {
	l := make([]int, len(items))
	for isRaised := true; isRaised; {
		isRaised = false
		for y := range items {
			before := l[y]
			for x, k := range l {
				l[y] = max(l[y], demandOf(items, x, k, y))
			}
			for l[y] < codes && !isOf(l[y], items[y].Round, weight) {
				l[y]++
			}
			if l[y] >= codes {
				return nil, false
			}
			isRaised = isRaised || l[y] != before
		}
	}
	return l, true
}

// schemeOf returns the scheme of a weight with the least codes of its plan. An item is pushed in its round, and behind each step whose bit is real and set.
func schemeOf(items []api.Item, weight int, l []int) api.Scheme {
	s := api.Scheme{Weight: weight}
	var pushed [maxSteps + 1]bool
	for x, k := range l {
		pushed[items[x].Round] = true
		s.Moves++
		for b := range maxSteps {
			if !isSet(k, b) {
				continue
			}
			s.Steps = max(s.Steps, b+1)
			if b >= items[x].Round {
				pushed[b+1] = true
				s.Moves++
			}
		}
	}
	for _, is := range pushed {
		if is {
			s.Pushes++
		}
	}
	return s
}

// schemesOf returns what Schemes must return, and the least codes of each scheme.
func schemesOf(items []api.Item) (l []api.Scheme, plans [][]int, e api.Errno) {
	if e := job.Valid(api.Job{Items: items}); e != api.OK {
		return nil, nil, e
	}
	for _, weight := range weights() {
		codes, isPossible := leastOf(items, weight)
		if !isPossible {
			continue
		}
		s := schemeOf(items, weight, codes)
		// The weights ascend, so that a scheme stands behind those with the same numbers.
		at := 0
		for at < len(l) && (l[at].Steps < s.Steps || l[at].Steps == s.Steps && l[at].Moves <= s.Moves) {
			at++
		}
		l, plans = slices.Insert(l, at, s), slices.Insert(plans, at, codes)
	}
	if len(l) == 0 {
		return nil, nil, api.ErrNone
	}
	return l, plans, api.OK
}

// loadsOf returns the loads of a plan that fits its job.
func loadsOf(items []api.Item, p api.Plan) []int {
	loads := make([]int, p.Steps)
	for x, item := range items {
		for b := item.Round; b < p.Steps; b++ {
			if isSet(p.Codes[x], b) {
				loads[b] += item.Length
			}
		}
		for len(loads) <= p.Steps+item.Train {
			loads = append(loads, 0)
		}
		loads[p.Steps+item.Train] += item.Length
	}
	return loads
}

// planOf returns what Plan must return.
func planOf(items []api.Item, tracks []int) (s api.Sheet, refusal []int, e api.Errno) {
	schemes, plans, e := schemesOf(items)
	if e != api.OK {
		return api.Sheet{}, nil, e
	}
	if len(tracks) > maxTracks {
		return api.Sheet{}, nil, api.ErrLimit
	}
	for _, length := range tracks {
		if length < 1 || length > longest {
			return api.Sheet{}, nil, api.ErrRange
		}
	}
	for n, s := range schemes {
		l, refused, e := assign.Match(loadsOf(items, api.Plan{Steps: s.Steps, Codes: plans[n]}), tracks)
		if e == api.OK {
			j := api.Job{Items: items, Weight: s.Weight}
			proof, _ := certificate.Make(j)
			return api.Sheet{Job: j, Proof: proof, Tracks: l}, nil, api.OK
		}
		if n == 0 {
			refusal = refused
		}
	}
	return api.Sheet{}, refusal, api.ErrRoom
}

// checkOf returns what Check must return.
func checkOf(s api.Sheet, tracks []int) api.Errno {
	if e := certificate.Check(s.Job, s.Proof); e != api.OK {
		return e
	}
	if !assign.Fits(loadsOf(s.Job.Items, s.Proof.Plan), tracks, s.Tracks) {
		return api.ErrRoom
	}
	return api.OK
}

// shape says how many items, trains, blocks and rounds a job has.
type shape struct{ items, trains, blocks, rounds int }

// eachItems calls visit with the items of every job of a shape whose rounds are one after another.
func eachItems(s shape, visit func(items []api.Item)) {
	var extend func(l []api.Item, round int)
	extend = func(l []api.Item, round int) {
		if len(l) == s.items {
			visit(l)
			return
		}
		for ; round < s.rounds; round++ {
			for c := range s.trains * s.blocks {
				// Each sum of these lengths has one way only to be made.
				x := api.Item{Train: c / s.blocks, Block: c % s.blocks, Round: round, Length: 1 << len(l)}
				extend(append(slices.Clone(l), x), round)
			}
		}
	}
	extend(nil, 0)
}

// randomItems returns the items of a job of a shape, whose trains, blocks and rounds are not consecutive.
func randomItems(r *rand.Rand, s shape) []api.Item {
	trains, blocks, rounds := r.Perm(maxTrains), r.Perm(maxBlocks), r.Perm(maxRound+1)
	var l []api.Item
	for range s.items {
		l = append(l, api.Item{
			Train: trains[r.IntN(s.trains)], Block: blocks[r.IntN(s.blocks)], Round: rounds[r.IntN(s.rounds)], Length: 1 + r.IntN(maxLength),
		})
	}
	slices.SortFunc(l, func(x, y api.Item) int { return x.Round - y.Round })
	return l
}

// randomShape returns a shape with at most so many items, of which about every other one has few trains and rounds.
func randomShape(r *rand.Rand, items int) shape {
	s := shape{r.IntN(items + 1), 1 + r.IntN(maxTrains), 1 + r.IntN(maxBlocks), 1 + r.IntN(maxRound+1)}
	if r.IntN(2) == 0 {
		s.trains, s.rounds = 1+r.IntN(2), 1+r.IntN(2)
	}
	return s
}

// randomTracks returns tracks in any order that are about as long as the loads of one of the possible schemes.
func randomTracks(r *rand.Rand, items []api.Item) []int {
	var tracks []int
	schemes, plans, e := schemesOf(items)
	if e == api.OK {
		n := r.IntN(len(schemes))
		for _, load := range loadsOf(items, api.Plan{Steps: schemes[n].Steps, Codes: plans[n]}) {
			if load > 0 {
				tracks = append(tracks, min(load+r.IntN(3), longest))
			}
		}
	}
	for range r.IntN(3) {
		tracks = append(tracks, 1+r.IntN(maxLength))
	}
	if n := len(tracks); n > 0 && r.IntN(2) == 0 {
		tracks[r.IntN(n)] = 1 + r.IntN(maxLength)
	}
	r.Shuffle(len(tracks), func(x, y int) { tracks[x], tracks[y] = tracks[y], tracks[x] })
	return tracks
}

func random(stream uint64) *rand.Rand {
	return rand.New(rand.NewPCG(17, stream))
}
