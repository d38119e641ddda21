package leastcode_test

import (
	"math"
	"slices"
	"testing"

	"humpyard/api"
	"humpyard/code"
	"humpyard/job"
	"humpyard/leastcode"
)

// blocks returns a job of one train with items of round 0 and some blocks.
func blocks(weight int, l ...int) api.Job {
	j := api.Job{Weight: weight}
	for _, b := range l {
		j.Items = append(j.Items, api.Item{Block: b, Length: 100})
	}
	return j
}

// rounds returns a job of one train; an item is a block and a round.
func rounds(weight int, l ...[2]int) api.Job {
	j := api.Job{Weight: weight}
	for _, x := range l {
		j.Items = append(j.Items, api.Item{Block: x[0], Round: x[1], Length: 100})
	}
	return j
}

// trains returns a job with items of round 0; an item is a train and a block.
func trains(weight int, l ...[2]int) api.Job {
	j := api.Job{Weight: weight}
	for _, x := range l {
		j.Items = append(j.Items, api.Item{Train: x[0], Block: x[1], Length: 100})
	}
	return j
}

// down returns the numbers from n - 1 down to 0.
func down(n int) []int {
	var l []int
	for i := range n {
		l = append(l, n-1-i)
	}
	return l
}

// full returns a job with as many items as possible, in the reverse order of their blocks as far as there are blocks.
func full(weight int) api.Job {
	return blocks(weight, append(down(maxBlocks), make([]int, maxWagons-maxBlocks)...)...)
}

// two is the job of two rounds whose chains the tests of Bound go through.
func two(weight int) api.Job {
	return rounds(weight, [2]int{1, 0}, [2]int{3, 0}, [2]int{0, 0}, [2]int{2, 0}, [2]int{4, 1}, [2]int{0, 1})
}

// wrong is a job that is not valid, with its error.
type wrong struct {
	j api.Job
	e api.Errno
}

// wrongJobs returns jobs with each error of job.Valid. Some have, beside it, items without least codes.
func wrongJobs() []wrong {
	l := []wrong{
		{api.Job{Items: make([]api.Item, maxWagons+1)}, api.ErrLimit},
		{api.Job{Items: make([]api.Item, 5000), Weight: -1}, api.ErrLimit},
		{api.Job{Weight: -1}, api.ErrRange},
		{api.Job{Weight: maxWeight + 1}, api.ErrRange},
		{blocks(math.MinInt, 1, 0), api.ErrRange},
		{blocks(math.MaxInt, 1, 0), api.ErrRange},
		{rounds(12, [2]int{0, 1}, [2]int{0, 0}), api.ErrOrder},
		{rounds(0, [2]int{1, 0}, [2]int{0, 0}, [2]int{1, 2}, [2]int{0, 1}), api.ErrOrder},
		{rounds(0, [2]int{1, 0}, [2]int{0, 0}, [2]int{maxBlocks, 2}, [2]int{0, 1}), api.ErrRange},
	}
	for _, x := range []api.Item{
		{Train: -1, Length: 1}, {Train: maxTrains, Length: 1}, {Train: math.MinInt, Length: 1}, {Train: math.MaxInt, Length: 1},
		{Block: -1, Length: 1}, {Block: maxBlocks, Length: 1}, {Block: math.MinInt, Length: 1}, {Block: math.MaxInt, Length: 1},
		{Round: -1, Length: 1}, {Round: maxRound + 1, Length: 1}, {Round: math.MinInt, Length: 1}, {Round: math.MaxInt, Length: 1},
		{Length: 0}, {Length: maxLength + 1}, {Length: math.MinInt}, {Length: math.MaxInt},
	} {
		l = append(l, wrong{api.Job{Items: []api.Item{x}}, api.ErrRange})
		// as the last item, behind two for which weight 0 has no codes
		l = append(l, wrong{api.Job{Items: append(blocks(0, 1, 0).Items, x)}, api.ErrRange})
	}
	return l
}

func clone(j api.Job) api.Job {
	return api.Job{Items: slices.Clone(j.Items), Weight: j.Weight}
}

// sameJob checks that a job has stayed as it was.
func sameJob(t *testing.T, call string, j, before api.Job) {
	t.Helper()
	if j.Weight != before.Weight || !slices.Equal(j.Items, before.Items) {
		t.Errorf("%s has changed %+v to %+v", call, before, j)
	}
}

func sameLeast(t *testing.T, j api.Job, steps int, codes []int, wantError api.Errno) {
	t.Helper()
	before := clone(j)
	p, e := leastcode.Least(j)
	if p.Steps != steps || !slices.Equal(p.Codes, codes) || e != wantError {
		t.Errorf("Least(%+v): %+v, error %d; want %d, %v, error %d", j, p, e, steps, codes, wantError)
	}
	sameJob(t, "Least", j, before)
}

func sameWitness(t *testing.T, j api.Job, want []int, wantError api.Errno) {
	t.Helper()
	before := clone(j)
	if got, e := leastcode.Witness(j); !slices.Equal(got, want) || e != wantError {
		t.Errorf("Witness(%+v): %v, error %d; want %v, error %d", j, got, e, want, wantError)
	}
	sameJob(t, "Witness", j, before)
}

func sameBound(t *testing.T, j api.Job, chain []int, want int, wantError api.Errno) {
	t.Helper()
	before, chainBefore := clone(j), slices.Clone(chain)
	if got, e := leastcode.Bound(j, chain); got != want || e != wantError {
		t.Errorf("Bound(%+v, %v): %d, error %d; want %d, error %d", j, chain, got, e, want, wantError)
	}
	sameJob(t, "Bound", j, before)
	if !slices.Equal(chain, chainBefore) {
		t.Errorf("Bound has changed %v to %v", chainBefore, chain)
	}
}

// sameAsDefined compares the least codes and the witness of a valid job with what they must be. It says whether there are least codes.
func sameAsDefined(t *testing.T, j api.Job) bool {
	t.Helper()
	l, ok := leastOf(j)
	if !ok {
		sameLeast(t, j, 0, nil, api.ErrNone)
		sameWitness(t, j, nil, api.ErrNone)
		return false
	}
	greatest := 0
	if len(l) > 0 {
		greatest = slices.Max(l)
	}
	sameLeast(t, j, stepsOf(greatest), l, api.OK)
	chain := witnessOf(j, l)
	sameWitness(t, j, chain, api.OK)
	sameBound(t, j, chain, greatest, api.OK)
	return true
}

// P13.1

func TestP13_1Least(t *testing.T) {
	for _, c := range []struct {
		j     api.Job
		steps int
		codes []int
	}{
		{blocks(12, 1, 3, 0, 2), 2, []int{1, 2, 0, 1}},
		{blocks(1, 1, 3, 0, 2), 2, []int{1, 2, 0, 1}},
		// items in the order of their blocks, and of one block, with each weight
		{blocks(0, 0, 1, 2, 3), 0, []int{0, 0, 0, 0}},
		{blocks(12, 0, 1, 2, 3), 0, []int{0, 0, 0, 0}},
		{blocks(0, 7, 7, 7), 0, []int{0, 0, 0}},
		// the weight decides which codes are passed over
		{blocks(12, down(6)...), 3, []int{5, 4, 3, 2, 1, 0}},
		{blocks(2, down(8)...), 4, []int{8, 6, 5, 4, 3, 2, 1, 0}},
		{blocks(1, down(6)...), 5, []int{16, 8, 4, 2, 1, 0}},
		// several items give the base of one
		{blocks(12, 2, 1, 1, 1), 1, []int{1, 0, 0, 0}},
		{blocks(12, 5, 2, 6, 1), 2, []int{2, 1, 2, 0}},
		// a weak relation to a greater code, and a strict one to a lesser code
		{blocks(12, 2, 9, 1, 8), 2, []int{1, 2, 0, 1}},
		{blocks(12, 3, 2, 1, 9, 0), 2, []int{3, 2, 1, 3, 0}},
		// blocks that are not consecutive
		{blocks(12, 10, 31, 2, 17), 2, []int{1, 2, 0, 1}},
		// the missed bits are set in the code
		{rounds(12, [2]int{5, 3}), 3, []int{7}},
		{rounds(12, [2]int{1, 0}, [2]int{0, 1}), 2, []int{2, 1}},
		{rounds(12, [2]int{0, 0}, [2]int{1, 1}), 1, []int{0, 1}},
		{rounds(12, [2]int{2, 0}, [2]int{1, 2}, [2]int{0, 2}), 4, []int{8, 7, 3}},
		{rounds(12, [2]int{2, 2}, [2]int{1, 2}, [2]int{0, 2}), 4, []int{11, 7, 3}},
		{rounds(1, [2]int{2, 2}, [2]int{1, 2}, [2]int{0, 2}), 4, []int{11, 7, 3}},
		{rounds(1, [2]int{3, 2}, [2]int{2, 2}, [2]int{1, 2}, [2]int{0, 2}), 5, []int{19, 11, 7, 3}},
		// an item that was missed stands behind one that was not
		{rounds(12, [2]int{1, 0}, [2]int{2, 0}, [2]int{0, 0}, [2]int{3, 1}), 1, []int{1, 1, 0, 1}},
		{rounds(12, [2]int{1, 0}, [2]int{2, 0}, [2]int{0, 0}, [2]int{2, 0}, [2]int{1, 2}), 3, []int{1, 4, 0, 4, 3}},
		{rounds(0, [2]int{0, 0}, [2]int{1, 1}, [2]int{2, 5}), 5, []int{0, 1, 31}},
		// the greatest code
		{rounds(12, [2]int{0, 12}, [2]int{1, 12}), 12, []int{4095, 4095}},
		{rounds(12, [2]int{1, 11}, [2]int{0, 11}), 12, []int{4095, 2047}},
		// trains with equal blocks, in turn
		{trains(12, [2]int{0, 1}, [2]int{15, 2}, [2]int{15, 1}, [2]int{0, 0}, [2]int{15, 0}), 2, []int{1, 2, 1, 0, 0}},
		{trains(0, [2]int{3, 1}, [2]int{2, 0}), 0, []int{0, 0}},
	} {
		sameLeast(t, c.j, c.steps, c.codes, api.OK)
		sameAsDefined(t, c.j)
	}
}

func TestP13_1NoItems(t *testing.T) {
	for weight := range maxWeight + 1 {
		sameLeast(t, api.Job{Weight: weight}, 0, nil, api.OK)
		sameLeast(t, api.Job{Weight: weight, Items: []api.Item{}}, 0, nil, api.OK)
	}
}

// A single item stands behind the steps that it missed, whatever the weight is.
func TestP13_1SingleItem(t *testing.T) {
	first := []int{0, 1, 3, 7, 15, 31, 63, 127, 255, 511, 1023, 2047, 4095}
	for round, k := range first {
		for weight := range maxWeight + 1 {
			for _, b := range []int{0, 1, 30, 31} {
				j := api.Job{Items: []api.Item{{Train: 15 - round, Block: b, Round: round, Length: 400}}, Weight: weight}
				sameLeast(t, j, round, []int{k}, api.OK)
				sameWitness(t, j, []int{0}, api.OK)
				sameBound(t, j, []int{0}, k, api.OK)
			}
		}
	}
}

// The most items in the reverse order of their blocks that have codes: one for each code of the form, if there are as many blocks.
func TestP13_1Weights(t *testing.T) {
	for weight := range maxWeight + 1 {
		for round := range maxRound + 1 {
			var all []int
			for k := range codes {
				if isOf(k, round, weight) {
					all = append(all, k)
				}
			}
			for n := 1; n <= maxBlocks; n++ {
				j := blocks(weight, down(n)...)
				for i := range j.Items {
					j.Items[i].Round = round
				}
				if n > len(all) {
					sameLeast(t, j, 0, nil, api.ErrNone)
					sameWitness(t, j, nil, api.ErrNone)
					continue
				}
				want := slices.Clone(all[:n])
				slices.Reverse(want)
				sameLeast(t, j, stepsOf(want[0]), want, api.OK)
				sameWitness(t, j, down(n), api.OK)
			}
		}
	}
}

func TestP13_1WithoutCodes(t *testing.T) {
	for _, j := range []api.Job{
		blocks(0, 1, 3, 0, 2),
		blocks(0, 1, 0),
		blocks(1, down(14)...),
		// two items that missed all steps
		rounds(12, [2]int{1, 12}, [2]int{0, 12}),
		rounds(12, [2]int{2, 11}, [2]int{1, 11}, [2]int{0, 11}),
		// an item ahead of one that missed steps
		rounds(0, [2]int{1, 0}, [2]int{0, 1}),
		rounds(12, [2]int{1, 0}, [2]int{0, 12}),
		// a base that is greater than all codes of the form, or than all codes
		rounds(0, [2]int{0, 0}, [2]int{5, 1}, [2]int{1, 2}),
		rounds(12, [2]int{1, 3}, [2]int{0, 12}),
		// only one of several trains has no codes, the first one or the last one
		trains(0, [2]int{0, 1}, [2]int{0, 0}, [2]int{1, 0}, [2]int{1, 1}),
		trains(0, [2]int{0, 0}, [2]int{0, 1}, [2]int{15, 31}, [2]int{15, 0}),
	} {
		sameLeast(t, j, 0, nil, api.ErrNone)
		sameWitness(t, j, nil, api.ErrNone)
		sameAsDefined(t, j)
	}
}

func TestP13_1Longest(t *testing.T) {
	sameLeast(t, full(12), 5, append(down(maxBlocks), make([]int, maxWagons-maxBlocks)...), api.OK)
	sameWitness(t, full(12), down(maxBlocks), api.OK)
	for weight := range maxWeight + 1 {
		sameAsDefined(t, full(weight))
		up := full(weight)
		slices.Reverse(up.Items)
		sameLeast(t, up, 0, make([]int, maxWagons), api.OK)
	}
	last := full(12)
	for i := range last.Items {
		last.Items[i] = api.Item{Train: 15, Block: 31, Round: 12, Length: 400}
	}
	sameLeast(t, last, 12, slices.Repeat([]int{4095}, maxWagons), api.OK)
	sameWitness(t, last, []int{0}, api.OK)
}

// All jobs with few items, of one train and of two, with all rounds up to 2.
func TestP13AllSmallJobs(t *testing.T) {
	for _, s := range []shape{{0, 1, 1, 1}, {1, 2, 2, 3}, {2, 2, 3, 3}, {3, 1, 3, 3}, {3, 2, 2, 2}, {4, 1, 4, 1}, {4, 1, 3, 3}, {5, 1, 3, 1}, {5, 1, 5, 1}} {
		for _, weight := range []int{0, 1, 2, 12} {
			eachJob(s, weight, func(j api.Job) { sameAsDefined(t, j) })
		}
	}
}

// In all plans of a job, each code is at least the least one; so no plan has fewer steps.
func TestP13_1AllPlans(t *testing.T) {
	plans := 0
	for _, s := range []shape{{1, 1, 1, 3}, {2, 2, 2, 3}, {3, 1, 3, 3}, {4, 1, 3, 2}} {
		for _, weight := range []int{0, 1, 2, 12} {
			eachJob(s, weight, func(j api.Job) {
				p, e := leastcode.Least(j)
				isLeast := false
				eachPlan(j, 3, func(l []int) {
					plans++
					isLeast = isLeast || slices.Equal(l, p.Codes)
					for i := range l {
						if e != api.OK || l[i] < p.Codes[i] {
							t.Fatalf("Least(%+v): %+v, error %d; there is a plan %v", j, p, e, l)
						}
					}
				})
				if e == api.OK && p.Steps <= 3 && !isLeast {
					t.Fatalf("Least(%+v): %+v is no plan", j, p)
				}
			})
		}
	}
	if plans < 10000 {
		t.Errorf("only %d plans", plans)
	}
}

// Random jobs of all lengths, with few and many trains, blocks, rounds and real bits.
func TestP13RandomJobs(t *testing.T) {
	r := random(1)
	with, without := 0, 0
	for n := range 6 * (maxWagons + 1) {
		s := shape{n % (maxWagons + 1), 1 + r.IntN(3), 1 + r.IntN(maxBlocks), 1 + r.IntN(5)}
		if r.IntN(3) == 0 {
			s.trains, s.rounds = 1+r.IntN(maxTrains), 1+r.IntN(maxRound+1)
		}
		for _, weight := range []int{0, 1, 2, r.IntN(maxWeight + 1), 12} {
			if sameAsDefined(t, randomJob(r, s, weight)) {
				with++
			} else {
				without++
			}
		}
	}
	if with < 500 || without < 500 {
		t.Errorf("%d jobs with least codes, %d without", with, without)
	}
}

// Many short jobs, so that there are such of all rounds that have least codes.
func TestP13RandomShortJobs(t *testing.T) {
	r := random(2)
	byRound := [maxRound + 1]int{}
	for range 6000 {
		j := randomJob(r, shape{1 + r.IntN(7), 1 + r.IntN(3), 1 + r.IntN(6), 1 + r.IntN(maxRound+1)}, r.IntN(maxWeight+1))
		if sameAsDefined(t, j) {
			byRound[j.Items[len(j.Items)-1].Round]++
		}
	}
	for round, n := range byRound {
		if n < 40 {
			t.Errorf("round %d: only %d jobs", round, n)
		}
	}
}

// If all rounds are 0, the least code of an item is the code with the index of its level.
func TestP13_1Levels(t *testing.T) {
	r := random(3)
	for n := range 3 * maxWagons {
		j := randomJob(r, shape{1 + n%maxWagons, 1 + r.IntN(4), 1 + r.IntN(maxBlocks), 1}, r.IntN(maxWeight+1))
		levels, _ := job.Levels(j)
		want, wantError := []int{}, api.OK
		for _, level := range levels {
			k, e := code.Nth(level, 0, j.Weight)
			want = append(want, k)
			wantError = max(wantError, e)
		}
		if wantError != api.OK {
			sameLeast(t, j, 0, nil, wantError)
			continue
		}
		sameLeast(t, j, stepsOf(slices.Max(want)), want, api.OK)
	}
}

// P13.2

func TestP13_2Bound(t *testing.T) {
	for _, c := range []struct {
		chain []int
		want  int
	}{
		{nil, 0}, {[]int{}, 0},
		// chains of one item
		{[]int{0}, 0}, {[]int{1}, 0}, {[]int{2}, 0}, {[]int{3}, 0}, {[]int{4}, 1}, {[]int{5}, 1},
		// one pair, strict and weak
		{[]int{2, 0}, 1}, {[]int{2, 1}, 1}, {[]int{3, 1}, 1}, {[]int{5, 0}, 2}, {[]int{5, 1}, 2}, {[]int{5, 3}, 2},
		{[]int{2, 3}, 0}, {[]int{0, 1}, 0}, {[]int{0, 3}, 0}, {[]int{2, 4}, 1}, {[]int{1, 4}, 1}, {[]int{5, 4}, 3},
		// longer ones
		{[]int{2, 0, 1}, 1}, {[]int{2, 0, 3}, 1}, {[]int{2, 0, 3, 1}, 2}, {[]int{2, 3, 1}, 1}, {[]int{2, 0, 3, 1, 4}, 3}, {[]int{2, 0, 4}, 1},
		{[]int{5, 0, 3, 1}, 3}, {[]int{5, 0, 3, 1, 4}, 3}, {[]int{5, 3, 1, 4}, 3}, {[]int{5, 0, 4}, 3},
	} {
		sameBound(t, two(12), c.chain, c.want, api.OK)
	}
}

// The bound is that of the items of the chain only, with the weight of the job.
func TestP13_2BoundWeights(t *testing.T) {
	for _, c := range []struct {
		weight, n, want int
		e               api.Errno
	}{
		{12, 13, 12, api.OK}, {2, 13, 17, api.OK}, {1, 13, 2048, api.OK}, {1, 12, 1024, api.OK}, {1, 2, 1, api.OK}, {1, 1, 0, api.OK},
		{0, 1, 0, api.OK}, {0, 2, 0, api.ErrNone}, {0, 13, 0, api.ErrNone},
	} {
		sameBound(t, blocks(c.weight, down(c.n)...), down(c.n), c.want, c.e)
	}
	// a job without least codes still has chains with bounds
	j := blocks(1, down(20)...)
	sameLeast(t, j, 0, nil, api.ErrNone)
	sameBound(t, j, []int{19, 18, 17, 3}, 4, api.OK)
	sameBound(t, j, down(20)[:13], 2048, api.OK)
	sameBound(t, j, down(20)[:14], 0, api.ErrNone)
}

func TestP13_2NoBound(t *testing.T) {
	for _, c := range []struct {
		j     api.Job
		chain []int
	}{
		{two(0), []int{2, 0}},
		{two(0), []int{5, 4}},
		// the number is missing early, at the end, or in between
		{two(0), []int{2, 0, 3, 1, 4}},
		{rounds(12, [2]int{1, 12}, [2]int{0, 12}), []int{1, 0}},
		{rounds(12, [2]int{1, 0}, [2]int{0, 12}), []int{1, 0}},
		{rounds(12, [2]int{2, 11}, [2]int{1, 11}, [2]int{0, 11}), []int{2, 1, 0}},
		{rounds(0, [2]int{0, 0}, [2]int{2, 1}, [2]int{1, 2}), []int{2, 1}},
	} {
		sameBound(t, c.j, c.chain, 0, api.ErrNone)
	}
	sameBound(t, two(1), []int{5, 0, 3, 1}, 4, api.OK)
	sameBound(t, two(1), []int{5, 0, 3, 1, 4}, 5, api.OK)
	sameBound(t, rounds(12, [2]int{2, 11}, [2]int{1, 11}, [2]int{0, 11}), []int{2, 1}, 4095, api.OK)
}

func TestP13_2NoChain(t *testing.T) {
	for _, chain := range [][]int{
		// an item twice
		{0, 0}, {2, 0, 0}, {2, 0, 2}, {2, 0, 3, 1, 1}, {2, 3, 2, 3},
		// two items of which the first does not come before the second: a greater block
		{0, 2}, {1, 3}, {4, 1}, {2, 0, 1, 3}, {2, 3, 0}, {3, 2, 0, 1}, {1, 3, 0, 2},
		// one block
		{2, 5}, {5, 2}, {2, 5, 0}, {5, 2, 0},
	} {
		sameBound(t, two(12), chain, 0, api.ErrInvalid)
	}
	j := trains(12, [2]int{0, 1}, [2]int{1, 2}, [2]int{0, 0}, [2]int{1, 0})
	for _, chain := range [][]int{{2, 1}, {3, 0}, {0, 1}, {2, 0, 1}, {3, 2}, {2, 3}} {
		sameBound(t, j, chain, 0, api.ErrInvalid)
	}
	sameBound(t, j, []int{2, 0}, 1, api.OK)
	sameBound(t, j, []int{3, 1}, 1, api.OK)
}

// A number that is no index of an item stands in each place of a chain, or alone.
func TestP13_2NoIndexes(t *testing.T) {
	for _, x := range []int{6, 7, 95, 96, 97, 1 << 32, 1<<32 + 2, math.MaxInt, -1, -2, -6, -1 << 32, math.MinInt} {
		sameBound(t, two(12), []int{x}, 0, api.ErrInvalid)
		sameBound(t, api.Job{}, []int{x}, 0, api.ErrInvalid)
		sameBound(t, blocks(0, 5), []int{x}, 0, api.ErrInvalid)
		sameBound(t, blocks(0, 5), []int{0, x}, 0, api.ErrInvalid)
		for n := range 5 {
			sameBound(t, two(12), slices.Insert([]int{2, 0, 3, 1}, n, x), 0, api.ErrInvalid)
		}
		sameBound(t, two(12), []int{x, x}, 0, api.ErrInvalid)
	}
	sameBound(t, api.Job{}, []int{0}, 0, api.ErrInvalid)
	sameBound(t, full(12), []int{95}, 0, api.OK)
	sameBound(t, full(12), []int{96}, 0, api.ErrInvalid)
}

// Lists that are much longer than any chain.
func TestP13_2LongLists(t *testing.T) {
	zeros := make([]int, 1000000)
	sameBound(t, full(12), zeros, 0, api.ErrInvalid)
	sameBound(t, full(12), append(down(maxBlocks), zeros...), 0, api.ErrInvalid)
	sameBound(t, full(12), down(maxBlocks), 31, api.OK)
	sameBound(t, api.Job{}, zeros, 0, api.ErrInvalid)
}

// A list that is no chain is reported before a number that does not exist, wherever each of them is, and an error of the job before both.
func TestP13_2OrderOfErrors(t *testing.T) {
	for _, rest := range [][]int{{2}, {0}, {6}, {-1}, {3, 5}, {1, 0}, {1, math.MaxInt}} {
		sameBound(t, two(0), []int{2, 0}, 0, api.ErrNone)
		sameBound(t, two(0), append([]int{2, 0}, rest...), 0, api.ErrInvalid)
		sameBound(t, two(0), append([]int{4, 2, 0}, rest...), 0, api.ErrInvalid)
		sameBound(t, two(13), append([]int{2, 0}, rest...), 0, api.ErrRange)
		sameBound(t, two(-1), rest, 0, api.ErrRange)
	}
	falling := two(0)
	falling.Items[0].Round = 1
	sameBound(t, falling, []int{2, 0}, 0, api.ErrOrder)
	sameBound(t, falling, []int{2, 0, 9}, 0, api.ErrOrder)
	sameBound(t, api.Job{Items: make([]api.Item, 97), Weight: 13}, []int{-1}, 0, api.ErrLimit)
}

// eachList calls visit with each list of up to most numbers from -1 to greatest.
func eachList(most, greatest int, visit func(l []int)) {
	var extend func(l []int)
	extend = func(l []int) {
		visit(l)
		for x := -1; x <= greatest && len(l) < most; x++ {
			extend(append(slices.Clone(l), x))
		}
	}
	extend(nil)
}

// All short lists, chains or not, of all jobs with few items.
func TestP13_2AllLists(t *testing.T) {
	for _, s := range []shape{{0, 1, 1, 1}, {1, 1, 1, 3}, {2, 2, 2, 3}, {3, 1, 3, 2}, {3, 2, 2, 1}} {
		for _, weight := range []int{0, 1, 12} {
			eachJob(s, weight, func(j api.Job) {
				eachList(s.items+1, s.items, func(l []int) {
					want, e := boundOf(j, l)
					sameBound(t, j, l, want, e)
				})
			})
		}
	}
}

// The least code of an item is the greatest bound of a chain that ends with it; it has none if such a chain has no bound.
func TestP13_2AllChains(t *testing.T) {
	for _, s := range []shape{{3, 2, 3, 2}, {4, 1, 4, 2}, {5, 1, 5, 1}} {
		for _, weight := range []int{0, 1, 12} {
			eachJob(s, weight, func(j api.Job) {
				greatest, wantError := make([]int, s.items), api.OK
				eachChain(j, func(chain []int) {
					bound, e := leastcode.Bound(j, chain)
					if want, wantE := boundOf(j, chain); bound != want || e != wantE {
						t.Fatalf("Bound(%+v, %v): %d, error %d; want %d, error %d", j, chain, bound, e, want, wantE)
					}
					wantError = max(wantError, e)
					if n := len(chain); n > 0 {
						greatest[chain[n-1]] = max(greatest[chain[n-1]], bound)
					}
				})
				p, e := leastcode.Least(j)
				if e != wantError || e == api.OK && !slices.Equal(p.Codes, greatest) {
					t.Fatalf("Least(%+v): %v, error %d; the greatest bounds are %v, error %d", j, p, e, greatest, wantError)
				}
			})
		}
	}
}

// Random chains of random jobs, whole and spoilt at one place; no bound is greater than that of the witness.
func TestP13_2RandomChains(t *testing.T) {
	r := random(4)
	seen := map[api.Errno]int{}
	for n := range 3000 {
		j := randomJob(r, shape{1 + n%maxWagons, 1 + r.IntN(3), 1 + r.IntN(maxBlocks), 1 + r.IntN(4)}, min(r.IntN(maxWeight+1), r.IntN(maxWeight+1), r.IntN(maxWeight+1)))
		chain := randomChain(r, j)
		want, e := boundOf(j, chain)
		seen[e]++
		sameBound(t, j, chain, want, e)
		if p, leastError := leastcode.Least(j); leastError == api.OK && (e != api.OK || want > p.Codes[chain[len(chain)-1]]) {
			t.Errorf("Least(%+v): %v; but the chain %v has the bound %d, error %d", j, p, chain, want, e)
		}
		place, x := r.IntN(len(chain)), r.IntN(maxWagons+1)
		if r.IntN(2) == 0 {
			chain = slices.Insert(chain, place, x)
		} else {
			chain[place] = x
		}
		want, e = boundOf(j, chain)
		seen[e]++
		sameBound(t, j, chain, want, e)
	}
	for _, e := range []api.Errno{api.OK, api.ErrInvalid, api.ErrNone} {
		if seen[e] < 300 {
			t.Errorf("error %d: only %d chains", e, seen[e])
		}
	}
}

// P13.3

func TestP13_3Witness(t *testing.T) {
	for _, c := range []struct {
		j     api.Job
		chain []int
	}{
		{blocks(12, 1, 3, 0, 2), []int{2, 0, 3, 1}},
		{blocks(12, 4), []int{0}},
		// several items with the greatest least code
		{blocks(12, 0, 0, 1), []int{0}},
		{blocks(12, 4, 9, 0), []int{2, 0}},
		{blocks(12, 9, 4, 0, 4), []int{2, 1, 0}},
		{blocks(12, 0, 4, 2, 9), []int{2, 1}},
		{rounds(12, [2]int{0, 3}, [2]int{0, 3}), []int{0}},
		{rounds(12, [2]int{9, 0}, [2]int{1, 1}, [2]int{9, 2}), []int{1, 2}},
		{rounds(12, [2]int{1, 0}, [2]int{0, 1}, [2]int{2, 1}), []int{1, 0, 2}},
		{trains(12, [2]int{3, 1}, [2]int{0, 1}, [2]int{3, 0}, [2]int{0, 0}), []int{2, 0}},
		{trains(12, [2]int{3, 1}, [2]int{0, 2}, [2]int{3, 0}, [2]int{0, 1}, [2]int{0, 0}), []int{4, 3, 1}},
		// several items give the base: all strictly
		{blocks(12, 2, 1, 1), []int{1, 0}},
		{blocks(12, 5, 1, 3), []int{1, 0}},
		{blocks(12, 5, 3, 4, 3), []int{3, 2, 0}},
		// weakly from the item with the least index, strictly from a later one
		{blocks(12, 3, 1, 6, 5, 4), []int{1, 0, 4, 3, 2}},
		{blocks(12, 1, 4, 0, 3, 2), []int{2, 0, 4, 3, 1}},
		{blocks(12, 3, 9, 6, 1), []int{3, 0, 2, 1}},
		// an item whose base is 0 is the first one, although others come before it
		{blocks(12, 0, 2, 1), []int{2, 1}},
		{blocks(12, 0, 1, 5, 2, 4, 3), []int{5, 4, 2}},
		{blocks(12, 0, 1, 2, 3), []int{0}},
		{rounds(0, [2]int{0, 0}, [2]int{1, 1}), []int{1}},
		{rounds(12, [2]int{0, 0}, [2]int{1, 0}, [2]int{2, 4}), []int{2}},
		// the base is less than the code
		{rounds(12, [2]int{2, 0}, [2]int{1, 2}, [2]int{0, 2}), []int{2, 1, 0}},
		{rounds(12, [2]int{1, 0}, [2]int{0, 0}, [2]int{2, 3}), []int{1, 0, 2}},
		{rounds(0, [2]int{0, 0}, [2]int{1, 1}, [2]int{2, 5}), []int{1, 2}},
		{rounds(1, [2]int{3, 0}, [2]int{2, 0}, [2]int{1, 0}, [2]int{0, 0}), []int{3, 2, 1, 0}},
		// the code of an item is the base of another one, but it does not come before it
		{trains(12, [2]int{1, 1}, [2]int{0, 1}, [2]int{1, 0}, [2]int{0, 3}, [2]int{0, 0}, [2]int{0, 2}), []int{4, 1, 5, 3}},
	} {
		sameWitness(t, c.j, c.chain, api.OK)
		sameAsDefined(t, c.j)
	}
}

func TestP13_3NoItems(t *testing.T) {
	for weight := range maxWeight + 1 {
		sameWitness(t, api.Job{Weight: weight}, nil, api.OK)
		sameBound(t, api.Job{Weight: weight}, nil, 0, api.OK)
	}
}

// All promises

// Every function returns the error of job.Valid before its own ones.
func TestP13WrongJobs(t *testing.T) {
	for _, c := range wrongJobs() {
		if e := job.Valid(c.j); e != c.e {
			t.Errorf("Valid(%+v): error %d, want %d", c.j, e, c.e)
		}
		sameLeast(t, c.j, 0, nil, c.e)
		sameWitness(t, c.j, nil, c.e)
		for _, chain := range [][]int{nil, {0}, {1, 0}, {0, 0}, {-1}, {math.MaxInt}} {
			sameBound(t, c.j, chain, 0, c.e)
		}
	}
}

// Jobs with numbers replaced at random have the error of job.Valid, and none of the functions panics.
func TestP13SpoiltJobs(t *testing.T) {
	r := random(5)
	numbers := []int{math.MinInt, -1, 0, 1, 12, 13, 15, 16, 31, 32, 63, 64, 400, 401, 1 << 32, math.MaxInt}
	seen := map[api.Errno]int{}
	for n := range 6000 {
		j := randomJob(r, shape{1 + n%99, 1 + r.IntN(maxTrains), 1 + r.IntN(maxBlocks), 1 + r.IntN(3)}, 12)
		for range 1 + r.IntN(2) {
			x := &j.Items[r.IntN(len(j.Items))]
			parts := []*int{&x.Train, &x.Block, &x.Round, &x.Round, &x.Length, &j.Weight}
			*parts[r.IntN(len(parts))] = numbers[r.IntN(len(numbers))]
		}
		e := job.Valid(j)
		seen[e]++
		if e == api.OK {
			sameAsDefined(t, j)
			continue
		}
		sameLeast(t, j, 0, nil, e)
		sameWitness(t, j, nil, e)
		sameBound(t, j, []int{r.IntN(len(j.Items)), r.IntN(len(j.Items))}, 0, e)
	}
	for _, e := range []api.Errno{api.OK, api.ErrLimit, api.ErrRange, api.ErrOrder} {
		if seen[e] < 100 {
			t.Errorf("error %d: only %d jobs", e, seen[e])
		}
	}
}

// Neither trains' numbers, nor lengths, nor the distance of blocks matter.
func TestP13OtherNumbers(t *testing.T) {
	r := random(6)
	for range 300 {
		j := randomJob(r, shape{1 + r.IntN(40), 1 + r.IntN(3), 1 + r.IntN(16), 1 + r.IntN(3)}, r.IntN(maxWeight+1))
		plan, e := leastcode.Least(j)
		chain, _ := leastcode.Witness(j)
		rank := map[int]int{}
		for b := range maxBlocks {
			if slices.ContainsFunc(j.Items, func(x api.Item) bool { return x.Block == b }) {
				rank[b] = len(rank)
			}
		}
		for i := range j.Items {
			x := &j.Items[i]
			x.Train, x.Block, x.Length = maxTrains-1-x.Train, rank[x.Block], maxLength+1-x.Length
		}
		sameLeast(t, j, plan.Steps, plan.Codes, e)
		sameWitness(t, j, chain, e)
	}
}

// Writing into a result, up to its capacity, changes no other result and no job.
func TestP13NewMemory(t *testing.T) {
	r := random(7)
	jobs := []api.Job{blocks(12, 1, 3, 0, 2), two(12), full(12)}
	for range 50 {
		jobs = append(jobs, randomJob(r, shape{1 + r.IntN(maxWagons), 1 + r.IntN(3), 1 + r.IntN(maxBlocks), 1 + r.IntN(3)}, 12))
	}
	for _, j := range jobs {
		separate(t, "Witness", j, leastcode.Witness)
		separate(t, "Least", j, func(j api.Job) ([]int, api.Errno) {
			p, e := leastcode.Least(j)
			return p.Codes, e
		})
	}
}

// separate checks that two results of one call share no memory.
func separate(t *testing.T, call string, j api.Job, f func(api.Job) ([]int, api.Errno)) {
	t.Helper()
	before := clone(j)
	first, _ := f(j)
	want := slices.Clone(first)
	second, _ := f(j)
	clear(first[:cap(first)])
	third, _ := f(j)
	if !slices.Equal(second, want) || !slices.Equal(third, want) {
		t.Errorf("%s(%+v): %v has become %v and %v", call, j, want, second, third)
	}
	sameJob(t, call, j, before)
}
