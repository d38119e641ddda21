package rollin_test

import (
	"math/rand/v2"
	"slices"

	"humpyard/api"
)

// This file says what the functions of package rollin must return for valid jobs, from the definitions alone: each push of an item has a number, and the items on a track stand in the order of the numbers of their last pushes.

// The limits, as numbers, so that a test fails if another limit is taken for one of them.
const (
	maxWagons = 96
	maxTrains = 16
	maxBlocks = 32
	maxRound  = 12
	maxLength = 400
	maxWeight = 12
	maxSteps  = 12
	codes     = 4096
)

// isSet says whether the bit b of a code is set.
func isSet(k, b int) bool {
	for range b {
		k /= 2
	}
	return k%2 == 1
}

// isOf says whether a number from 0 to 4095 is a code of the form.
func isOf(k, round, weight int) bool {
	for b := range maxSteps {
		if b < round && !isSet(k, b) {
			return false
		}
		if b >= round && isSet(k, b) {
			weight--
		}
	}
	return weight >= 0
}

// stepsOf returns the least number of steps with which the code k is less than 2^steps.
func stepsOf(k int) int {
	steps := 0
	for limit := 1; limit <= k; limit *= 2 {
		steps++
	}
	return steps
}

// isFit says whether a plan fits a job that is valid.
func isFit(j api.Job, p api.Plan) bool {
	if p.Steps < 0 || p.Steps > maxSteps || len(p.Codes) != len(j.Items) {
		return false
	}
	limit := 1
	for range p.Steps {
		limit *= 2
	}
	for i, k := range p.Codes {
		if k < 0 || k >= limit || !isOf(k, j.Items[i].Round, j.Weight) {
			return false
		}
	}
	return true
}

// trainsOf returns the number of tracks for trains.
func trainsOf(j api.Job) int {
	n := 0
	for _, x := range j.Items {
		if x.Train >= n {
			n = x.Train + 1
		}
	}
	return n
}

// yard is what a plan does with a job. The places are the sorting tracks, from 0 on, and behind them the tracks of the trains.
type yard struct {
	j api.Job
	p api.Plan
	// place and number are, for each item, where it stands (-1 if nowhere) and the number of its last push.
	place, number []int
	// stood says, for each place and each item, whether the item has stood there.
	stood [][]bool
	// moves and pushes are how many times an item was pushed, and at how many times.
	moves, pushes int
}

// yardBehind returns the yard behind the pushes at the times 0 to last.
func yardBehind(j api.Job, p api.Plan, last int) *yard {
	y := &yard{j: j, p: p, place: slices.Repeat([]int{-1}, len(j.Items)), number: make([]int, len(j.Items))}
	for range p.Steps + trainsOf(j) {
		y.stood = append(y.stood, make([]bool, len(j.Items)))
	}
	for time := 0; time <= last; time++ {
		taken := slices.Concat(y.on(time-1), y.come(time))
		for _, x := range taken {
			y.push(x, time)
		}
		if len(taken) > 0 {
			y.pushes++
		}
	}
	return y
}

// on returns the items at a place, in their order.
func (y *yard) on(place int) []int {
	var l []int
	for x := range y.place {
		if y.place[x] == place && place >= 0 {
			l = append(l, x)
		}
	}
	slices.SortFunc(l, func(a, b int) int { return y.number[a] - y.number[b] })
	return l
}

// come returns the items of a round.
func (y *yard) come(round int) []int {
	var l []int
	for x := range y.j.Items {
		if y.j.Items[x].Round == round {
			l = append(l, x)
		}
	}
	return l
}

// push pushes an item at a time.
func (y *yard) push(x, time int) {
	place := y.p.Steps + y.j.Items[x].Train
	for b := y.p.Steps - 1; b >= time; b-- {
		if isSet(y.p.Codes[x], b) {
			place = b
		}
	}
	y.moves++
	y.place[x], y.number[x], y.stood[place][x] = place, y.moves, true
}

// contents returns the items on the sorting tracks and on the tracks of the trains.
func (y *yard) contents() (steps, trains [][]int) {
	for place := range y.stood {
		if place < y.p.Steps {
			steps = append(steps, y.on(place))
		} else {
			trains = append(trains, y.on(place))
		}
	}
	return steps, trains
}

// loads returns the sum of the lengths of the items that have stood at each place.
func (y *yard) loads() []int {
	var l []int
	for _, stood := range y.stood {
		sum := 0
		for x := range stood {
			if stood[x] {
				sum += y.j.Items[x].Length
			}
		}
		l = append(l, sum)
	}
	return l
}

// eachPlan calls visit with every plan of some steps that fits a job.
func eachPlan(j api.Job, steps int, visit func(p api.Plan)) {
	l := make([]int, len(j.Items))
	var choose func(i int)
	choose = func(i int) {
		if i == len(l) {
			visit(api.Plan{Steps: steps, Codes: slices.Clone(l)})
			return
		}
		for k := range 1 << steps {
			if isOf(k, j.Items[i].Round, j.Weight) {
				l[i] = k
				choose(i + 1)
			}
		}
	}
	choose(0)
}

// shape says how many items, trains, blocks and rounds a job has.
type shape struct{ items, trains, blocks, rounds int }

// eachJob calls visit with every job of a shape whose rounds are one after another.
func eachJob(s shape, weight int, visit func(j api.Job)) {
	items := make([]api.Item, s.items)
	var choose func(i, round int)
	choose = func(i, round int) {
		if i == s.items {
			visit(api.Job{Items: slices.Clone(items), Weight: weight})
			return
		}
		for ; round < s.rounds; round++ {
			for c := range s.trains * s.blocks {
				// Each sum of these lengths has one way only to be made.
				items[i] = api.Item{Train: c / s.blocks, Block: c % s.blocks, Round: round, Length: 1 << i}
				choose(i+1, round)
			}
		}
	}
	choose(0, 0)
}

// randomJob returns a job of a shape, whose trains, blocks and rounds are not consecutive.
func randomJob(r *rand.Rand, s shape, weight int) api.Job {
	ts, bs, rs := r.Perm(maxTrains)[:s.trains], r.Perm(maxBlocks)[:s.blocks], make([]int, s.items)
	for i := range rs {
		rs[i] = r.IntN(s.rounds)
	}
	slices.Sort(rs)
	j := api.Job{Weight: weight}
	for _, round := range rs {
		j.Items = append(j.Items, api.Item{Train: ts[r.IntN(s.trains)], Block: bs[r.IntN(s.blocks)], Round: round, Length: 1 + r.IntN(maxLength)})
	}
	return j
}

// randomPlan returns a plan that fits a job whose rounds are at most steps.
func randomPlan(r *rand.Rand, j api.Job, steps int) api.Plan {
	p := api.Plan{Steps: steps}
	for _, x := range j.Items {
		k := 1<<x.Round - 1
		for n := r.IntN(j.Weight + 1); n > 0 && x.Round < steps; n-- {
			k |= 1 << (x.Round + r.IntN(steps-x.Round))
		}
		p.Codes = append(p.Codes, k)
	}
	return p
}

func random(stream uint64) *rand.Rand {
	return rand.New(rand.NewPCG(14, stream))
}
