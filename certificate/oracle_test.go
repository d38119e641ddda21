package certificate_test

import (
	"math/rand/v2"
	"slices"

	"humpyard/api"
)

// This file says what the functions of package certificate must return, from the definitions alone: codes and bounds are found by counting upwards, and encodings are put together from numbers of one byte.

// The limits, as numbers, so that a test fails if another limit is taken for one of them.
const (
	maxWagons = 96
	maxTrains = 16
	maxBlocks = 32
	maxRound  = 12
	maxLength = 400
	maxWeight = 12
	maxSteps  = 12
	codes     = 4096
)

// limitOf returns 2^steps.
func limitOf(steps int) int {
	limit := 1
	for range steps {
		limit *= 2
	}
	return limit
}

// isOf says whether a number from 0 to 4095 is a code of the form.
func isOf(k, round, weight int) bool {
	missed := limitOf(round) - 1
	if k%(missed+1) != missed {
		return false
	}
	for rest := k / (missed + 1); rest > 0; rest /= 2 {
		weight -= rest % 2
	}
	return weight >= 0
}

// isNeeded says whether the item x comes before the item y, and by how much the code of y must then be greater.
func isNeeded(j api.Job, x, y int) (bool, int) {
	a, b := j.Items[x], j.Items[y]
	if a.Train != b.Train || a.Block >= b.Block {
		return false, 0
	}
	if y < x {
		return true, 1
	}
	return true, 0
}

// isFit says whether a plan fits a job that is valid.
func isFit(j api.Job, p api.Plan) bool {
	if p.Steps < 0 || p.Steps > maxSteps || len(p.Codes) != len(j.Items) {
		return false
	}
	for i, k := range p.Codes {
		if k < 0 || k >= limitOf(p.Steps) || !isOf(k, j.Items[i].Round, j.Weight) {
			return false
		}
	}
	return true
}

// isOrdered says whether the codes of some first items of a job are in the order that they need.
func isOrdered(j api.Job, l []int) bool {
	for x := range l {
		for y := range l {
			if is, by := isNeeded(j, x, y); is && l[y]-l[x] < by {
				return false
			}
		}
	}
	return true
}

// boundOf returns the bound of a list, and the error of leastcode.Bound.
func boundOf(j api.Job, list []int) (int, api.Errno) {
	least := make([]int, len(list))
	for n, y := range list {
		if y < 0 || y >= len(j.Items) {
			return 0, api.ErrInvalid
		}
		if n == 0 {
			continue
		}
		is, by := isNeeded(j, list[n-1], y)
		if !is {
			return 0, api.ErrInvalid
		}
		least[n] = by
	}
	bound := 0
	for n, y := range list {
		bound += least[n]
		for bound < codes && !isOf(bound, j.Items[y].Round, j.Weight) {
			bound++
		}
		if bound >= codes {
			return 0, api.ErrNone
		}
	}
	return bound, api.OK
}

// checkOf returns what Check must return for a valid job.
func checkOf(j api.Job, p api.Proof) api.Errno {
	if !isFit(j, p.Plan) {
		return api.ErrInvalid
	}
	if !isOrdered(j, p.Plan.Codes) {
		return api.ErrOrder
	}
	bound, e := boundOf(j, p.Chain)
	if e != api.OK {
		return e
	}
	steps := 0
	for bound >= limitOf(steps) {
		steps++
	}
	if steps != p.Plan.Steps {
		return api.ErrConflict
	}
	return api.OK
}

// encodingOf returns what Encode must return.
func encodingOf(p api.Proof) ([]byte, api.Errno) {
	if len(p.Plan.Codes) > maxWagons || len(p.Chain) > maxWagons {
		return nil, api.ErrLimit
	}
	numbers := []int{p.Plan.Steps, len(p.Plan.Codes)}
	isRight := p.Plan.Steps >= 0 && p.Plan.Steps <= maxSteps
	for _, k := range p.Plan.Codes {
		isRight = isRight && k >= 0 && k < codes
		numbers = append(numbers, k/256, k%256)
	}
	numbers = append(numbers, len(p.Chain))
	for _, x := range p.Chain {
		isRight = isRight && x >= 0 && x < maxWagons
		numbers = append(numbers, x)
	}
	if !isRight {
		return nil, api.ErrRange
	}
	var b []byte
	for _, n := range numbers {
		b = append(b, byte(n))
	}
	return b, api.OK
}

// decodingOf returns what Decode must return.
func decodingOf(b []byte) (api.Proof, api.Errno) {
	size := 2
	if len(b) >= size {
		size += 2*int(b[1]) + 1
	}
	// The place of the number of elements is the last one that is known.
	place := size - 1
	if place > 1 && len(b) > place {
		size += int(b[place])
	}
	if len(b) < size {
		return api.Proof{}, api.ErrTruncated
	}
	if len(b) > size {
		return api.Proof{}, api.ErrForm
	}
	p := api.Proof{Plan: api.Plan{Steps: int(b[0])}}
	for i := 2; i < place; i += 2 {
		p.Plan.Codes = append(p.Plan.Codes, 256*int(b[i])+int(b[i+1]))
	}
	for _, x := range b[place+1:] {
		p.Chain = append(p.Chain, int(x))
	}
	if _, e := encodingOf(p); e != api.OK {
		return api.Proof{}, e
	}
	return p, api.OK
}

// eachPlan calls visit with the codes of every plan of some steps that sorts a job.
func eachPlan(j api.Job, steps int, visit func(l []int)) {
	var extend func(l []int)
	extend = func(l []int) {
		if len(l) == len(j.Items) {
			visit(l)
			return
		}
		for k := range limitOf(steps) {
			longer := append(slices.Clone(l), k)
			if isOf(k, j.Items[len(l)].Round, j.Weight) && isOrdered(j, longer) {
				extend(longer)
			}
		}
	}
	extend(nil)
}

// eachList calls visit with each list of up to most numbers from least to greatest.
func eachList(most, least, greatest int, visit func(l []int)) {
	var extend func(l []int)
	extend = func(l []int) {
		visit(l)
		for x := least; x <= greatest && len(l) < most; x++ {
			extend(append(slices.Clone(l), x))
		}
	}
	extend(nil)
}

// shape says how many items, trains, blocks and rounds a job has.
type shape struct{ items, trains, blocks, rounds int }

// eachJob calls visit with every job of a shape whose rounds are one after another.
func eachJob(s shape, weight int, visit func(j api.Job)) {
	var extend func(l []api.Item, round int)
	extend = func(l []api.Item, round int) {
		if len(l) == s.items {
			visit(api.Job{Items: l, Weight: weight})
			return
		}
		for c := range s.trains * s.blocks * (s.rounds - round) {
			x := api.Item{Train: c % s.trains, Block: c / s.trains % s.blocks, Round: round + c/s.trains/s.blocks, Length: 1}
			extend(append(slices.Clone(l), x), x.Round)
		}
	}
	extend(nil, 0)
}

// randomJob returns a job of a shape, whose trains, blocks and rounds are not consecutive.
func randomJob(r *rand.Rand, s shape, weight int) api.Job {
	trains, blocks := r.Perm(maxTrains), r.Perm(maxBlocks)
	j := api.Job{Weight: weight}
	for range s.items {
		j.Items = append(j.Items, api.Item{
			Train: trains[r.IntN(s.trains)], Block: blocks[r.IntN(s.blocks)], Round: r.IntN(s.rounds), Length: 1 + r.IntN(maxLength),
		})
	}
	slices.SortFunc(j.Items, func(x, y api.Item) int { return x.Round - y.Round })
	return j
}

// randomProof returns a proof that has an encoding.
func randomProof(r *rand.Rand) api.Proof {
	p := api.Proof{Plan: api.Plan{Steps: r.IntN(maxSteps + 1)}}
	for range r.IntN(maxWagons + 1) {
		p.Plan.Codes = append(p.Plan.Codes, r.IntN(codes))
	}
	for range r.IntN(maxWagons + 1) {
		p.Chain = append(p.Chain, r.IntN(maxWagons))
	}
	return p
}

func random(stream uint64) *rand.Rand {
	return rand.New(rand.NewPCG(15, stream))
}
