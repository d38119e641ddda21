package leastcode_test

import (
	"math/rand/v2"
	"slices"

	"humpyard/api"
)

// This file says what the functions of package leastcode must return for valid jobs, from the definitions alone: codes are found by counting upwards, and least codes by raising codes until all items are in order.

// The limits, as numbers, so that a test fails if another limit is taken for one of them.
const (
	maxWagons = 96
	maxTrains = 16
	maxBlocks = 32
	maxRound  = 12
	maxLength = 400
	maxWeight = 12
	codes     = 4096
)

// none stands for a code that does not exist.
const none = -1

// isOf says whether k is a code of the form.
func isOf(k, round, weight int) bool {
	for b := 0; b < 12 && weight >= 0; b++ {
		isSet := k/(1<<b)%2 == 1
		if b < round && !isSet {
			return false
		}
		if b >= round && isSet {
			weight--
		}
	}
	return weight >= 0
}

// nextOf returns the least code of the form that is at least least.
func nextOf(least, round, weight int) int {
	for k := least; k < codes; k++ {
		if isOf(k, round, weight) {
			return k
		}
	}
	return none
}

// stepsOf returns the least number of steps with which the code k is less than 2^steps.
func stepsOf(k int) int {
	steps := 0
	for limit := 1; limit <= k; limit *= 2 {
		steps++
	}
	return steps
}

// isBefore says whether the item x comes before the item y.
func isBefore(j api.Job, x, y int) bool {
	a, b := j.Items[x], j.Items[y]
	return a.Train == b.Train && a.Block < b.Block
}

// strictStep returns 1 if y stands ahead of x in the list of items, and otherwise 0.
func strictStep(x, y int) int {
	if y < x {
		return 1
	}
	return 0
}

// leastOf returns the least codes of all items; it is false if an item has none. No code is raised further than the others demand, so that they are the least ones when none is raised any more.
func leastOf(j api.Job) ([]int, bool) {
	l := make([]int, len(j.Items))
	for y, item := range j.Items {
		l[y] = nextOf(0, item.Round, j.Weight)
	}
	for isRaised := true; isRaised; {
		isRaised = false
		for y, item := range j.Items {
			base := baseOf(j, l, y)
			if l[y] >= base {
				continue
			}
			if l[y] = nextOf(base, item.Round, j.Weight); l[y] == none {
				return nil, false
			}
			isRaised = true
		}
	}
	return l, true
}

// baseOf returns the base of the item y, given the codes of the others.
func baseOf(j api.Job, l []int, y int) int {
	base := 0
	for x := range j.Items {
		if isBefore(j, x, y) {
			base = max(base, l[x]+strictStep(x, y))
		}
	}
	return base
}

// witnessOf returns the chain that Witness must return, given the least codes.
func witnessOf(j api.Job, l []int) []int {
	if len(l) == 0 {
		return nil
	}
	y := 0
	for x, k := range l {
		if k > l[y] {
			y = x
		}
	}
	chain := []int{y}
	for base := baseOf(j, l, y); base > 0; base = baseOf(j, l, y) {
		var ways []int
		for x, k := range l {
			if isBefore(j, x, y) && k+strictStep(x, y) == base {
				ways = append(ways, x)
			}
		}
		y = slices.Min(ways)
		chain = slices.Insert(chain, 0, y)
	}
	return chain
}

// isChain says whether a list is a chain of the job.
func isChain(j api.Job, list []int) bool {
	for _, x := range list {
		if x < 0 || x >= len(j.Items) {
			return false
		}
	}
	for n := 1; n < len(list); n++ {
		if !isBefore(j, list[n-1], list[n]) {
			return false
		}
	}
	return true
}

// boundOf returns what Bound must return for a valid job.
func boundOf(j api.Job, list []int) (int, api.Errno) {
	if !isChain(j, list) {
		return 0, api.ErrInvalid
	}
	if len(list) == 0 {
		return 0, api.OK
	}
	n := len(list) - 1
	last, least := list[n], 0
	if n > 0 {
		bound, e := boundOf(j, list[:n])
		if e != api.OK {
			return 0, e
		}
		least = bound + strictStep(list[n-1], last)
	}
	if k := nextOf(least, j.Items[last].Round, j.Weight); k != none {
		return k, api.OK
	}
	return 0, api.ErrNone
}

// eachChain calls visit with every chain of a job.
func eachChain(j api.Job, visit func(chain []int)) {
	var extend func(chain []int)
	extend = func(chain []int) {
		visit(chain)
		for y := range j.Items {
			if longer := append(slices.Clone(chain), y); isChain(j, longer) {
				extend(longer)
			}
		}
	}
	extend(nil)
}

// eachPlan calls visit with the codes of every plan that sorts the job in some steps, with codes of the form: the code of an item is at least that of each item that comes before it, and greater if that does so strictly.
func eachPlan(j api.Job, steps int, visit func(l []int)) {
	l := make([]int, len(j.Items))
	var choose func(i int)
	choose = func(i int) {
		if i == len(l) {
			visit(l)
			return
		}
		for k := range 1 << steps {
			l[i] = k
			if isOf(k, j.Items[i].Round, j.Weight) && isInOrder(j, l[:i+1]) {
				choose(i + 1)
			}
		}
	}
	choose(0)
}

// isInOrder says whether the codes of the first items of a job are in the order that they need.
func isInOrder(j api.Job, l []int) bool {
	for x := range l {
		for y := range l {
			if isBefore(j, x, y) && l[y] < l[x]+strictStep(x, y) {
				return false
			}
		}
	}
	return true
}

// shape says how many items, trains, blocks and rounds a job has.
type shape struct{ items, trains, blocks, rounds int }

// eachJob calls visit with every job of a shape whose rounds are one after another.
func eachJob(s shape, weight int, visit func(j api.Job)) {
	items := make([]api.Item, s.items)
	var choose func(i, round int)
	choose = func(i, round int) {
		if i == s.items {
			visit(api.Job{Items: slices.Clone(items), Weight: weight})
			return
		}
		for ; round < s.rounds; round++ {
			for c := range s.trains * s.blocks {
				items[i] = api.Item{Train: c / s.blocks, Block: c % s.blocks, Round: round, Length: 1 + i}
				choose(i+1, round)
			}
		}
	}
	choose(0, 0)
}

// randomJob returns a job of a shape, whose trains, blocks and rounds are not consecutive.
func randomJob(r *rand.Rand, s shape, weight int) api.Job {
	ts, bs, rs := r.Perm(maxTrains)[:s.trains], r.Perm(maxBlocks)[:s.blocks], make([]int, s.items)
	for i := range rs {
		rs[i] = r.IntN(s.rounds)
	}
	slices.Sort(rs)
	j := api.Job{Weight: weight}
	for _, round := range rs {
		j.Items = append(j.Items, api.Item{Train: ts[r.IntN(s.trains)], Block: bs[r.IntN(s.blocks)], Round: round, Length: 1 + r.IntN(maxLength)})
	}
	return j
}

// randomChain returns a chain that is found by going back at random from an item of a job.
func randomChain(r *rand.Rand, j api.Job) []int {
	y := r.IntN(len(j.Items))
	chain := []int{y}
	for r.IntN(12) > 0 {
		var ways []int
		for x := range j.Items {
			if isBefore(j, x, y) {
				ways = append(ways, x)
			}
		}
		if len(ways) == 0 {
			break
		}
		y = ways[r.IntN(len(ways))]
		chain = slices.Insert(chain, 0, y)
	}
	return chain
}

func random(stream uint64) *rand.Rand {
	return rand.New(rand.NewPCG(13, stream))
}
