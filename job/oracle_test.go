package job_test

import (
	"math"
	"math/rand/v2"
	"slices"

	"humpyard/api"
)

// This file says what the functions of package job must return, from the definitions alone.

// The limits, as numbers, so that a test fails if another limit is taken for one of them.
const (
	maxWagons = 96
	maxTrains = 16
	maxBlocks = 32
	maxRounds = 13
	maxLength = 400
	maxWeight = 12
)

// errorOf returns the first error of a job.
func errorOf(j api.Job) api.Errno {
	if len(j.Items) > maxWagons {
		return api.ErrLimit
	}
	if j.Weight < 0 || j.Weight > maxWeight {
		return api.ErrRange
	}
	for i, x := range j.Items {
		if x.Train < 0 || x.Train >= maxTrains || x.Block < 0 || x.Block >= maxBlocks {
			return api.ErrRange
		}
		if x.Round < 0 || x.Round >= maxRounds || x.Length < 1 || x.Length > maxLength {
			return api.ErrRange
		}
		if i > 0 && x.Round < j.Items[i-1].Round {
			return api.ErrOrder
		}
	}
	return api.OK
}

// comesBefore says whether the item x comes before the item y, of the same train and with a lesser block.
func comesBefore(j api.Job, x, y int) bool {
	a, b := j.Items[x], j.Items[y]
	return a.Train == b.Train && a.Block < b.Block
}

// strictStep returns 1 if y stands ahead of x in the list of items, and otherwise 0.
func strictStep(x, y int) int {
	if y < x {
		return 1
	}
	return 0
}

// relationOf returns what Relation must return.
func relationOf(j api.Job, x, y int) int {
	if !comesBefore(j, x, y) {
		return 0
	}
	return 1 + strictStep(x, y)
}

// levelOf returns the level of the item y by the recursion of its definition. Levels that are known are kept in known.
func levelOf(j api.Job, y int, known map[int]int) int {
	if level, ok := known[y]; ok {
		return level
	}
	level := 0
	for x := range j.Items {
		if comesBefore(j, x, y) {
			level = max(level, levelOf(j, x, known)+strictStep(x, y))
		}
	}
	known[y] = level
	return level
}

func levelsOf(j api.Job) []int {
	known := map[int]int{}
	levels := make([]int, len(j.Items))
	for y := range levels {
		levels[y] = levelOf(j, y, known)
	}
	return levels
}

// deepestOf returns the chain that Deepest must return, given the levels.
func deepestOf(j api.Job, levels []int) []int {
	if len(levels) == 0 {
		return nil
	}
	y := 0
	for x, level := range levels {
		if level > levels[y] {
			y = x
		}
	}
	chain := []int{y}
	for levels[y] > 0 {
		var ways []int
		for x := range levels {
			if comesBefore(j, x, y) && levels[x]+strictStep(x, y) == levels[y] {
				ways = append(ways, x)
			}
		}
		y = ways[0]
		chain = slices.Insert(chain, 0, y)
	}
	return chain
}

// isChain says whether a list is a chain.
func isChain(j api.Job, chain []int) bool {
	for n := 1; n < len(chain); n++ {
		if !comesBefore(j, chain[n-1], chain[n]) {
			return false
		}
	}
	return true
}

// strictSteps returns how many pairs of neighbours of a chain come strictly one before the other.
func strictSteps(chain []int) int {
	n := 0
	for i := 1; i < len(chain); i++ {
		n += strictStep(chain[i-1], chain[i])
	}
	return n
}

// deepestEnds returns for each item the greatest number of strict pairs of a chain that ends with it, found among all chains.
func deepestEnds(j api.Job) []int {
	most := make([]int, len(j.Items))
	var extend func(chain []int)
	extend = func(chain []int) {
		last := chain[len(chain)-1]
		most[last] = max(most[last], strictSteps(chain))
		for y := range j.Items {
			if longer := append(slices.Clone(chain), y); isChain(j, longer) {
				extend(longer)
			}
		}
	}
	for x := range j.Items {
		extend([]int{x})
	}
	return most
}

// isSorted says whether lists are what Sorted asks for, part by part.
func isSorted(j api.Job, trains [][]int) bool {
	return onceEach(j, trains) && ownTrains(j, trains) && noFalls(j, trains)
}

// onceEach says whether the lists contain each item exactly once, and nothing else.
func onceEach(j api.Job, trains [][]int) bool {
	all := slices.Concat(trains...)
	slices.Sort(all)
	if len(all) != len(j.Items) {
		return false
	}
	for i, x := range all {
		if i != x {
			return false
		}
	}
	return true
}

// ownTrains says whether list t contains only items of train t. All elements are items.
func ownTrains(j api.Job, trains [][]int) bool {
	for t, list := range trains {
		for _, x := range list {
			if j.Items[x].Train != t {
				return false
			}
		}
	}
	return true
}

// noFalls says whether in each list no block is less than any earlier one.
func noFalls(j api.Job, trains [][]int) bool {
	for _, list := range trains {
		for n := range list {
			for m := range n {
				if j.Items[list[n]].Block < j.Items[list[m]].Block {
					return false
				}
			}
		}
	}
	return true
}

// eachJob calls visit with every job of n items of some trains and blocks.
func eachJob(n, trains, blocks int, visit func(j api.Job)) {
	items := make([]api.Item, n)
	var choose func(i int)
	choose = func(i int) {
		if i == n {
			visit(api.Job{Items: slices.Clone(items), Weight: n})
			return
		}
		for c := range trains * blocks {
			items[i] = api.Item{Train: c / blocks, Block: c % blocks, Length: 1 + i}
			choose(i + 1)
		}
	}
	choose(0)
}

// randomJob returns a job of n items of up to some trains and blocks, which are not consecutive.
func randomJob(r *rand.Rand, n, trains, blocks int) api.Job {
	ts, bs := r.Perm(maxTrains)[:trains], r.Perm(maxBlocks)[:blocks]
	j := api.Job{Weight: r.IntN(maxWeight + 1)}
	rounds := make([]int, n)
	for i := range rounds {
		rounds[i] = r.IntN(maxRounds)
	}
	slices.Sort(rounds)
	for i := range n {
		j.Items = append(j.Items, api.Item{Train: ts[r.IntN(trains)], Block: bs[r.IntN(blocks)], Round: rounds[i], Length: 1 + r.IntN(maxLength)})
	}
	return j
}

// integers returns numbers around all limits, numbers that look like them in fewer bits, and the ends of int.
func integers() []int {
	l := []int{math.MinInt, math.MinInt + 1, math.MaxInt, math.MaxInt - 1, 1 << 32, 1<<32 + 1, -1 << 32, -1<<32 + 1}
	for _, n := range []int{0, 1, 2, 3, maxWeight, maxRounds, maxTrains, maxBlocks, 64, maxWagons, 128, 256, maxLength, 65536} {
		l = append(l, n-1, n, n+1, -n-1, -n, -n+1)
	}
	return l
}

func random(stream uint64) *rand.Rand {
	return rand.New(rand.NewPCG(11, stream))
}
