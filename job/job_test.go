package job_test

import (
	"fmt"
	"math"
	"slices"
	"testing"

	"humpyard/api"
	"humpyard/job"
)

// blocks returns a job of one train with items of some blocks.
func blocks(l ...int) api.Job {
	j := api.Job{Weight: 3}
	for _, b := range l {
		j.Items = append(j.Items, api.Item{Block: b, Length: 100})
	}
	return j
}

// trainsBlocks returns a job with items of some trains and blocks.
func trainsBlocks(l ...[2]int) api.Job {
	j := api.Job{Weight: 3}
	for _, x := range l {
		j.Items = append(j.Items, api.Item{Train: x[0], Block: x[1], Length: 100})
	}
	return j
}

// several has items of three trains, which are not consecutive, in two rounds, with blocks in any order.
func several() api.Job {
	return api.Job{Weight: 12, Items: []api.Item{
		{Train: 15, Block: 31, Round: 0, Length: 400},
		{Train: 0, Block: 20, Round: 0, Length: 1},
		{Train: 15, Block: 0, Round: 0, Length: 140},
		{Train: 7, Block: 4, Round: 0, Length: 200},
		{Train: 0, Block: 3, Round: 2, Length: 140},
		{Train: 15, Block: 31, Round: 2, Length: 140},
		{Train: 15, Block: 9, Round: 12, Length: 140},
		{Train: 0, Block: 20, Round: 12, Length: 140},
	}}
}

// falling returns a job of n items of one train, as many as possible of which stand in the reverse order of their blocks.
func falling(n int) api.Job {
	var l []int
	for i := range n {
		l = append(l, max(0, maxBlocks-1-i))
	}
	return blocks(l...)
}

// wrong is a job that is not valid, with its error.
type wrong struct {
	j    api.Job
	want api.Errno
}

// wrongItems returns items one of whose numbers is just beyond its range.
func wrongItems() []api.Item {
	return []api.Item{
		{Train: -1, Length: 1}, {Train: maxTrains, Length: 1},
		{Block: -1, Length: 1}, {Block: maxBlocks, Length: 1},
		{Round: -1, Length: 1}, {Round: maxRounds, Length: 1},
		{Length: 0}, {Length: maxLength + 1},
		{Train: math.MinInt, Length: 1}, {Train: math.MaxInt, Length: 1},
		{Block: math.MinInt, Length: 1}, {Block: math.MaxInt, Length: 1},
		{Round: math.MinInt, Length: 1}, {Round: math.MaxInt, Length: 1},
		{Length: math.MinInt}, {Length: math.MaxInt},
	}
}

// wrongJobs returns jobs with each error of Valid.
func wrongJobs() []wrong {
	falls := []api.Item{{Round: 2, Length: 1}, {Round: 1, Length: 1}}
	l := []wrong{
		{api.Job{Items: make([]api.Item, maxWagons+1)}, api.ErrLimit},
		{api.Job{Items: make([]api.Item, 10*maxWagons), Weight: -1}, api.ErrLimit},
		{api.Job{Weight: -1}, api.ErrRange},
		{api.Job{Weight: maxWeight + 1}, api.ErrRange},
		{api.Job{Weight: maxWeight + 1, Items: falls}, api.ErrRange},
		{api.Job{Items: falls}, api.ErrOrder},
	}
	for _, x := range wrongItems() {
		l = append(l, wrong{api.Job{Items: []api.Item{x}}, api.ErrRange})
	}
	return l
}

// sameJob checks that a job has stayed as it was.
func sameJob(t *testing.T, call string, j, before api.Job) {
	t.Helper()
	if j.Weight != before.Weight || !slices.Equal(j.Items, before.Items) {
		t.Errorf("%s has changed %+v to %+v", call, before, j)
	}
}

func clone(j api.Job) api.Job {
	return api.Job{Items: slices.Clone(j.Items), Weight: j.Weight}
}

func sameValid(t *testing.T, j api.Job, want api.Errno) {
	t.Helper()
	before := clone(j)
	if e := job.Valid(j); e != want {
		t.Errorf("Valid(%+v): error %d, want %d", j, e, want)
	}
	sameJob(t, "Valid", j, before)
}

func sameRelation(t *testing.T, j api.Job, x, y, want int, wantError api.Errno) {
	t.Helper()
	before := clone(j)
	if got, e := job.Relation(j, x, y); got != want || e != wantError {
		t.Errorf("Relation(%+v, %d, %d): %d, error %d; want %d, error %d", j, x, y, got, e, want, wantError)
	}
	sameJob(t, "Relation", j, before)
}

func sameLevels(t *testing.T, j api.Job, want []int, wantError api.Errno) {
	t.Helper()
	before := clone(j)
	if got, e := job.Levels(j); !slices.Equal(got, want) || e != wantError {
		t.Errorf("Levels(%+v): %v, error %d; want %v, error %d", j, got, e, want, wantError)
	}
	sameJob(t, "Levels", j, before)
}

func sameDeepest(t *testing.T, j api.Job, want []int, wantError api.Errno) {
	t.Helper()
	before := clone(j)
	if got, e := job.Deepest(j); !slices.Equal(got, want) || e != wantError {
		t.Errorf("Deepest(%+v): %v, error %d; want %v, error %d", j, got, e, want, wantError)
	}
	sameJob(t, "Deepest", j, before)
}

func sameSorted(t *testing.T, j api.Job, trains [][]int, want bool, wantError api.Errno) {
	t.Helper()
	before := clone(j)
	var listsBefore [][]int
	for _, list := range trains {
		listsBefore = append(listsBefore, slices.Clone(list))
	}
	if got, e := job.Sorted(j, trains); got != want || e != wantError {
		t.Errorf("Sorted(%+v, %v): %v, error %d; want %v, error %d", j, trains, got, e, want, wantError)
	}
	sameJob(t, "Sorted", j, before)
	if !slices.EqualFunc(trains, listsBefore, slices.Equal[[]int]) {
		t.Errorf("Sorted has changed %v to %v", listsBefore, trains)
	}
}

// sameAsDefined compares the relations, levels and the chain of a job with what they must be.
func sameAsDefined(t *testing.T, j api.Job) {
	t.Helper()
	before := clone(j)
	for x := range j.Items {
		for y := range j.Items {
			want := relationOf(j, x, y)
			if got, e := job.Relation(j, x, y); got != want || e != api.OK {
				t.Errorf("Relation(%+v, %d, %d): %d, error %d; want %d", j, x, y, got, e, want)
			}
		}
	}
	sameJob(t, "Relation", j, before)
	levels := levelsOf(j)
	sameLevels(t, j, levels, api.OK)
	sameDeepest(t, j, deepestOf(j, levels), api.OK)
}

// P11.1

func TestP11_1Valid(t *testing.T) {
	full := api.Job{Weight: 12}
	for range maxWagons {
		full.Items = append(full.Items, api.Item{Train: 15, Block: 31, Round: 12, Length: 400})
	}
	for _, j := range []api.Job{
		{}, {Items: []api.Item{}}, {Weight: 12}, blocks(1, 3, 0, 2), blocks(5), several(), falling(96), full,
		{Items: []api.Item{{Train: 0, Block: 0, Round: 0, Length: 1}}},
		{Items: []api.Item{{Train: 15, Block: 31, Round: 12, Length: 400}}, Weight: 12},
		{Items: []api.Item{{Round: 2, Length: 1}, {Round: 2, Length: 1}, {Round: 5, Length: 1}, {Round: 12, Length: 1}}},
	} {
		sameValid(t, j, api.OK)
	}
}

// One number at a time is at the ends of its range, just beyond them or far from them; the others are right.
func TestP11_1ValidEachNumber(t *testing.T) {
	for _, n := range integers() {
		right := api.Item{Train: 5, Block: 6, Round: 0, Length: 7}
		for _, c := range []struct {
			j          api.Job
			isAccepted bool
		}{
			{api.Job{Weight: n}, 0 <= n && n <= 12},
			{api.Job{Weight: n, Items: []api.Item{right}}, 0 <= n && n <= 12},
			{api.Job{Items: []api.Item{{Train: n, Length: 1}}}, 0 <= n && n <= 15},
			{api.Job{Items: []api.Item{right, {Block: n, Length: 1}}}, 0 <= n && n <= 31},
			{api.Job{Items: []api.Item{right, {Round: n, Length: 1}}}, 0 <= n && n <= 12},
			{api.Job{Items: []api.Item{right, right, {Length: n}}}, 1 <= n && n <= 400},
		} {
			want := api.ErrRange
			if c.isAccepted {
				want = api.OK
			}
			sameValid(t, c.j, want)
		}
	}
}

func TestP11_1ValidErrors(t *testing.T) {
	for _, c := range wrongJobs() {
		sameValid(t, c.j, c.want)
	}
}

// Every item is looked at, wherever it stands.
func TestP11_1ValidEachPlace(t *testing.T) {
	for i := range maxWagons {
		for _, x := range wrongItems() {
			j := falling(maxWagons)
			j.Items[i] = x
			sameValid(t, j, api.ErrRange)
		}
		if i == 0 {
			continue
		}
		j := falling(maxWagons)
		for k := range i {
			j.Items[k].Round = 1
		}
		sameValid(t, j, api.ErrOrder)
		for k := i; k < maxWagons; k++ {
			j.Items[k].Round = 2
		}
		sameValid(t, j, api.OK)
	}
}

func TestP11_1ValidOrderOfErrors(t *testing.T) {
	short := api.Item{Round: 1}
	one, two := api.Item{Round: 1, Length: 1}, api.Item{Round: 2, Length: 1}
	long := api.Job{Items: append(make([]api.Item, 95), two, one)}
	sameValid(t, long, api.ErrLimit)
	long.Weight = 13
	sameValid(t, long, api.ErrLimit)
	for _, c := range []wrong{
		{api.Job{Items: []api.Item{two, one}, Weight: -1}, api.ErrRange},
		{api.Job{Items: []api.Item{two, one}}, api.ErrOrder},
		// both errors of one item
		{api.Job{Items: []api.Item{two, short}}, api.ErrRange},
		{api.Job{Items: []api.Item{two, {Round: -1, Length: 1}}}, api.ErrRange},
		// an error of an item and one of a later item
		{api.Job{Items: []api.Item{two, one, short}}, api.ErrOrder},
		{api.Job{Items: []api.Item{short, two, one}}, api.ErrRange},
		{api.Job{Items: []api.Item{two, one, {Train: 16, Round: 2, Length: 1}}}, api.ErrOrder},
		// a round that falls behind equal ones, and one that rises again behind it
		{api.Job{Items: []api.Item{one, two, two, one}}, api.ErrOrder},
		{api.Job{Items: []api.Item{one, two, two, one, two}}, api.ErrOrder},
	} {
		sameValid(t, c.j, c.want)
	}
}

// Jobs with numbers replaced at random have the error that the definition names first, and none of the functions panics.
func TestP11_1ValidSpoilt(t *testing.T) {
	r := random(1)
	numbers := integers()
	seen := map[api.Errno]int{}
	for n := range 40000 {
		j := randomJob(r, 1+n%99, 1+r.IntN(maxTrains), 1+r.IntN(maxBlocks))
		for range 1 + r.IntN(3) {
			x := &j.Items[r.IntN(len(j.Items))]
			parts := []*int{&x.Train, &x.Block, &x.Round, &x.Round, &x.Round, &x.Length, &j.Weight}
			*parts[r.IntN(len(parts))] = numbers[r.IntN(len(numbers))]
		}
		e := errorOf(j)
		seen[e]++
		sameValid(t, j, e)
		if e != api.OK {
			sameErrors(t, j, 0, len(j.Items)-1, e)
		}
	}
	for _, e := range []api.Errno{api.OK, api.ErrLimit, api.ErrRange, api.ErrOrder} {
		if seen[e] < 500 {
			t.Errorf("error %d: only %d jobs", e, seen[e])
		}
	}
}

// P11.2

func TestP11_2Relation(t *testing.T) {
	j := blocks(1, 3, 0, 1)
	for _, c := range [][3]int{
		{2, 0, 2}, {2, 1, 2}, {3, 1, 2},
		{0, 1, 1}, {2, 3, 1},
		// a greater block
		{0, 2, 0}, {1, 0, 0}, {1, 2, 0}, {1, 3, 0}, {3, 2, 0},
		// one block
		{0, 3, 0}, {3, 0, 0},
		// an item and itself
		{0, 0, 0}, {1, 1, 0}, {2, 2, 0}, {3, 3, 0},
	} {
		sameRelation(t, j, c[0], c[1], c[2], api.OK)
	}
}

// Items of two trains have no order, whatever their blocks, rounds and lengths are.
func TestP11_2RelationTrains(t *testing.T) {
	j := several()
	for _, c := range [][3]int{
		{0, 1, 0}, {1, 0, 0}, {2, 1, 0}, {4, 0, 0}, {3, 1, 0}, {1, 3, 0}, {4, 3, 0},
		{2, 0, 2}, {6, 0, 2}, {4, 1, 2}, {6, 5, 2},
		{2, 5, 1}, {2, 6, 1}, {4, 7, 1},
		{0, 5, 0}, {5, 0, 0}, {1, 7, 0}, {0, 2, 0}, {7, 4, 0},
	} {
		sameRelation(t, j, c[0], c[1], c[2], api.OK)
	}
}

func TestP11_2RelationIndexes(t *testing.T) {
	for _, j := range []api.Job{{}, blocks(4), blocks(1, 3, 0, 2), falling(maxWagons)} {
		n := len(j.Items)
		for _, x := range append(integers(), n-1, n, n+1) {
			isItem := 0 <= x && x < n
			for y := range n {
				want, wantBack, e := 0, 0, api.ErrRange
				if isItem {
					want, wantBack, e = relationOf(j, x, y), relationOf(j, y, x), api.OK
				}
				sameRelation(t, j, x, y, want, e)
				sameRelation(t, j, y, x, wantBack, e)
			}
			if !isItem {
				sameRelation(t, j, x, x, 0, api.ErrRange)
				sameRelation(t, j, x, -1, 0, api.ErrRange)
				sameRelation(t, j, n, x, 0, api.ErrRange)
			}
		}
	}
}

func TestP11_2Examples(t *testing.T) {
	for _, c := range []struct {
		j             api.Job
		levels, chain []int
	}{
		{blocks(1, 3, 0, 2), []int{1, 2, 0, 1}, []int{2, 0, 3, 1}},
		{blocks(0, 0, 1), []int{0, 0, 0}, []int{0}},
		// no item, one item
		{api.Job{}, nil, nil},
		{blocks(0), []int{0}, []int{0}},
		{blocks(31), []int{0}, []int{0}},
		// blocks that are not consecutive
		{blocks(10, 31, 2, 17), []int{1, 2, 0, 1}, []int{2, 0, 3, 1}},
		// the reverse order of the blocks, and the order of the blocks
		{blocks(4, 3, 2, 1, 0), []int{4, 3, 2, 1, 0}, []int{4, 3, 2, 1, 0}},
		{blocks(0, 1, 2, 3, 4), []int{0, 0, 0, 0, 0}, []int{0}},
		{blocks(1, 1, 0, 0), []int{1, 1, 0, 0}, []int{2, 0}},
		{blocks(6, 6, 6), []int{0, 0, 0}, []int{0}},
	} {
		sameLevels(t, c.j, c.levels, api.OK)
		sameDeepest(t, c.j, c.chain, api.OK)
	}
}

func TestP11_2DeepestChoices(t *testing.T) {
	for _, c := range []struct {
		j             api.Job
		levels, chain []int
	}{
		// several items with the greatest level
		{blocks(4, 9, 0), []int{1, 1, 0}, []int{2, 0}},
		{blocks(4, 4, 0), []int{1, 1, 0}, []int{2, 0}},
		{blocks(0, 4, 2, 9), []int{0, 1, 0, 1}, []int{2, 1}},
		// several items to go back to, all strictly
		{blocks(5, 3, 3), []int{1, 0, 0}, []int{1, 0}},
		{blocks(5, 1, 3), []int{1, 0, 0}, []int{1, 0}},
		{blocks(5, 3, 4, 3), []int{2, 0, 1, 0}, []int{3, 2, 0}},
		{blocks(2, 1, 0, 1, 0), []int{2, 1, 0, 1, 0}, []int{2, 1, 0}},
		// several items to go back to, weakly to the first one and strictly to a later one
		{blocks(1, 0, 2, 1), []int{1, 0, 1, 0}, []int{1, 0}},
		{blocks(3, 9, 6, 1), []int{1, 2, 1, 0}, []int{3, 0, 2, 1}},
		{blocks(3, 1, 6, 5, 4), []int{1, 0, 3, 2, 1}, []int{1, 0, 4, 3, 2}},
		{blocks(3, 6, 1, 4), []int{1, 2, 0, 1}, []int{2, 0, 3, 1}},
		{blocks(1, 3, 0, 1, 2, 0), []int{1, 2, 0, 1, 1, 0}, []int{5, 3, 1}},
		{blocks(1, 4, 0, 3, 2), []int{1, 3, 0, 2, 1}, []int{2, 0, 4, 3, 1}},
		{trainsBlocks([2]int{0, 2}, [2]int{0, 5}, [2]int{0, 1}, [2]int{0, 4}, [2]int{0, 3}), []int{1, 3, 0, 2, 1}, []int{2, 0, 4, 3, 1}},
		// items of level 0 are not followed further back
		{blocks(0, 2, 1), []int{0, 1, 0}, []int{2, 1}},
		{blocks(0, 1, 5, 2, 4, 3), []int{0, 0, 2, 0, 1, 0}, []int{5, 4, 2}},
		// of two trains, the chain is in the one with the first item of the greatest level
		{trainsBlocks([2]int{3, 1}, [2]int{0, 1}, [2]int{3, 0}, [2]int{0, 0}), []int{1, 1, 0, 0}, []int{2, 0}},
		{trainsBlocks([2]int{3, 1}, [2]int{0, 2}, [2]int{3, 0}, [2]int{0, 1}, [2]int{0, 0}), []int{1, 2, 0, 1, 0}, []int{4, 3, 1}},
		// a lesser block of another train changes nothing
		{trainsBlocks([2]int{2, 1}, [2]int{1, 0}), []int{0, 0}, []int{0}},
	} {
		sameLevels(t, c.j, c.levels, api.OK)
		sameDeepest(t, c.j, c.chain, api.OK)
	}
}

func TestP11_2SeveralTrains(t *testing.T) {
	sameLevels(t, several(), []int{1, 1, 0, 0, 0, 1, 0, 0}, api.OK)
	sameDeepest(t, several(), []int{2, 0}, api.OK)
	sameAsDefined(t, several())
}

// The longest lists, in the reverse order of their blocks, in the order of them, and turning in each block.
func TestP11_2Longest(t *testing.T) {
	sameAsDefined(t, falling(maxWagons))
	var levels []int
	for i := range maxBlocks {
		levels = append(levels, maxBlocks-1-i)
	}
	chain := levels
	sameLevels(t, falling(maxBlocks), levels, api.OK)
	sameDeepest(t, falling(maxBlocks), chain, api.OK)
	sameDeepest(t, falling(maxWagons), chain, api.OK)

	rising := falling(maxWagons)
	slices.Reverse(rising.Items)
	sameLevels(t, rising, make([]int, maxWagons), api.OK)
	sameDeepest(t, rising, []int{0}, api.OK)

	var turning []int
	for range 3 {
		for b := range maxBlocks {
			turning = append(turning, b^1)
		}
	}
	sameAsDefined(t, blocks(turning...))
}

// All jobs with few items: the levels are what the recursion and the search of all chains find, and the chain proves the greatest one.
func TestP11_2AllSmallJobs(t *testing.T) {
	for _, c := range [][3]int{{0, 1, 1}, {1, 2, 3}, {2, 3, 3}, {3, 2, 3}, {4, 2, 3}, {5, 2, 2}, {5, 1, 5}, {6, 1, 4}} {
		eachJob(c[0], c[1], c[2], func(j api.Job) {
			sameAsDefined(t, j)
			provesLevels(t, j, deepestEnds(j))
		})
	}
}

// provesLevels checks the levels and the chain of a job against the greatest numbers of strict pairs of chains.
func provesLevels(t *testing.T, j api.Job, most []int) {
	t.Helper()
	sameLevels(t, j, most, api.OK)
	if len(most) == 0 {
		return
	}
	chain, _ := job.Deepest(j)
	if !isChain(j, chain) || strictSteps(chain) != slices.Max(most) {
		t.Errorf("%+v: %v does not prove the level %d", j, chain, slices.Max(most))
	}
}

// Random jobs of all lengths, with few and many trains and blocks.
func TestP11_2RandomJobs(t *testing.T) {
	r := random(2)
	for n := range maxWagons + 1 {
		sameAsDefined(t, randomJob(r, n, 1, 1+r.IntN(maxBlocks)))
		sameAsDefined(t, randomJob(r, n, 1+r.IntN(3), 1+r.IntN(maxBlocks)))
		sameAsDefined(t, randomJob(r, n, 1+r.IntN(maxTrains), 1+r.IntN(maxBlocks)))
	}
}

// The order depends on trains and blocks only, not on rounds, lengths and weights.
func TestP11_2OtherNumbers(t *testing.T) {
	r := random(3)
	for range 200 {
		j := randomJob(r, 1+r.IntN(40), 1+r.IntN(3), 1+r.IntN(maxBlocks))
		levels, _ := job.Levels(j)
		chain, _ := job.Deepest(j)
		for i := range j.Items {
			j.Items[i].Round, j.Items[i].Length = 0, 1+r.IntN(maxLength)
		}
		j.Weight = maxWeight - j.Weight
		sameLevels(t, j, levels, api.OK)
		sameDeepest(t, j, chain, api.OK)
	}
}

// P11.3

// twoTrains has items of the trains 0 and 2.
func twoTrains() api.Job {
	j := blocks(1, 3, 0, 2)
	j.Items = append(j.Items, api.Item{Train: 2, Block: 5, Length: 1}, api.Item{Train: 2, Block: 5, Length: 1})
	return j
}

func TestP11_3Sorted(t *testing.T) {
	for _, c := range []struct {
		trains [][]int
		want   bool
	}{
		{[][]int{{2, 0, 3, 1}, nil, {4, 5}}, true},
		{[][]int{{2, 0, 3, 1}, {}, {5, 4}}, true},
		// more lists than trains, which are empty
		{[][]int{{2, 0, 3, 1}, nil, {4, 5}, nil}, true},
		{append([][]int{{2, 0, 3, 1}, nil, {4, 5}}, make([][]int, 100)...), true},
		// fewer lists than trains
		{nil, false},
		{[][]int{}, false},
		{[][]int{{2, 0, 3, 1}}, false},
		{[][]int{{2, 0, 3, 1}, nil}, false},
		{[][]int{nil, nil, {4, 5}}, false},
		// all lists are empty
		{make([][]int, 3), false},
		// blocks that fall
		{[][]int{{2, 0, 1, 3}, nil, {4, 5}}, false},
		{[][]int{{0, 2, 3, 1}, nil, {4, 5}}, false},
		{[][]int{{0, 1, 2, 3}, nil, {4, 5}}, false},
		{[][]int{{1, 3, 0, 2}, nil, {4, 5}}, false},
		// an item twice
		{[][]int{{2, 0, 3, 1, 1}, nil, {4, 5}}, false},
		{[][]int{{2, 2, 0, 3, 1}, nil, {4, 5}}, false},
		{[][]int{{2, 0, 3, 1}, nil, {4, 4}}, false},
		{[][]int{{2, 0, 3, 1}, nil, {4, 5, 4}}, false},
		// an item is missing
		{[][]int{{2, 0, 3}, nil, {4, 5}}, false},
		{[][]int{{0, 3, 1}, nil, {4, 5}}, false},
		{[][]int{{2, 0, 3, 1}, nil, {5}}, false},
		{[][]int{{2, 0, 3, 1}, nil, nil}, false},
		// items of another train
		{[][]int{{2, 0, 3, 1, 4}, nil, {5}}, false},
		{[][]int{{2, 0, 3, 1}, {4}, {5}}, false},
		{[][]int{{2, 0, 3, 1}, {4, 5}}, false},
		{[][]int{{4, 5}, nil, {2, 0, 3, 1}}, false},
		{[][]int{{2, 0, 3, 1}, nil, {4}, {5}}, false},
		{[][]int{{2, 0, 3, 1}, nil, {4, 5}, {4}}, false},
		{[][]int{{2, 0, 3, 1, 4, 5}}, false},
	} {
		sameSorted(t, twoTrains(), c.trains, c.want, api.OK)
	}
}

func TestP11_3SortedIndexes(t *testing.T) {
	for _, x := range append(integers(), 6, 7) {
		if 0 <= x && x < 6 {
			continue
		}
		for _, trains := range [][][]int{
			{{2, 0, 3, 1, x}, nil, {4, 5}},
			{{x, 2, 0, 3, 1}, nil, {4, 5}},
			{{2, 0, 3, 1}, nil, {4, x}},
			{{2, 0, 3, x}, nil, {4, 5}},
			{{2, 0, 3, 1}, {x}, {4, 5}},
			{{2, 0, 3, 1}, nil, {4, 5}, {x}},
			{{x}},
		} {
			sameSorted(t, twoTrains(), trains, false, api.OK)
		}
		sameSorted(t, api.Job{}, [][]int{{x}}, false, api.OK)
	}
}

func TestP11_3SortedSmallest(t *testing.T) {
	sameSorted(t, api.Job{}, nil, true, api.OK)
	sameSorted(t, api.Job{}, make([][]int, 20), true, api.OK)
	sameSorted(t, api.Job{}, [][]int{nil, {0}}, false, api.OK)
	sameSorted(t, blocks(7), [][]int{{0}}, true, api.OK)
	sameSorted(t, blocks(7), nil, false, api.OK)
	sameSorted(t, blocks(7), [][]int{nil, {0}}, false, api.OK)
	sameSorted(t, blocks(7), [][]int{{0, 0}}, false, api.OK)
	last := trainsBlocks([2]int{15, 31})
	lists := make([][]int, 16)
	sameSorted(t, last, lists, false, api.OK)
	lists[15] = []int{0}
	sameSorted(t, last, lists, true, api.OK)
	sameSorted(t, last, lists[:15], false, api.OK)
	sameSorted(t, last, append([][]int{nil}, lists...), false, api.OK)
}

// All small jobs with all lists of up to four indexes in two lists, from -1 up to the number of items.
func TestP11_3SortedAllLists(t *testing.T) {
	isTrue := 0
	for n := range 4 {
		eachJob(n, 2, 2, func(j api.Job) {
			eachTwoLists(n+1, n, func(trains [][]int) {
				want := isSorted(j, trains)
				if want {
					isTrue++
				}
				if got, e := job.Sorted(j, trains); got != want || e != api.OK {
					t.Fatalf("Sorted(%+v, %v): %v, error %d; want %v", j, trains, got, e, want)
				}
			})
		})
	}
	if isTrue < 100 {
		t.Errorf("only %d lists are sorted", isTrue)
	}
}

// eachTwoLists calls visit with each two lists that have together up to most indexes, from -1 to greatest.
func eachTwoLists(most, greatest int, visit func(trains [][]int)) {
	var extend func(list []int)
	extend = func(list []int) {
		for split := range len(list) + 1 {
			visit([][]int{list[:split], list[split:]})
		}
		for x := -1; x <= greatest && len(list) < most; x++ {
			extend(append(slices.Clone(list), x))
		}
	}
	extend(nil)
}

// sortedLists returns lists that sort a job, items of one block in a random order.
func sortedLists(j api.Job, order []int) [][]int {
	trains := make([][]int, maxTrains)
	for b := range maxBlocks {
		for _, x := range order {
			if j.Items[x].Block == b {
				t := j.Items[x].Train
				trains[t] = append(trains[t], x)
			}
		}
	}
	return trains
}

// Random jobs with lists that sort them, and with such lists spoilt at one place.
func TestP11_3SortedRandom(t *testing.T) {
	r := random(4)
	wrongLists := 0
	for n := range 1200 {
		j := randomJob(r, n%(maxWagons+1), 1+r.IntN(maxTrains), 1+r.IntN(maxBlocks))
		trains := sortedLists(j, r.Perm(len(j.Items)))
		sameSorted(t, j, trains, true, api.OK)
		if len(j.Items) == 0 {
			continue
		}
		item := j.Items[r.IntN(len(j.Items))]
		list := &trains[item.Train]
		place := r.IntN(len(*list))
		switch r.IntN(4) {
		case 0:
			other := r.IntN(len(*list))
			(*list)[place], (*list)[other] = (*list)[other], (*list)[place]
		case 1:
			*list = slices.Delete(*list, place, place+1)
		case 2:
			*list = slices.Insert(*list, place, (*list)[place])
		case 3:
			(*list)[place] = r.IntN(len(j.Items))
		}
		want := isSorted(j, trains)
		if !want {
			wrongLists++
		}
		sameSorted(t, j, trains, want, api.OK)
	}
	if wrongLists < 600 {
		t.Errorf("only %d lists are wrong", wrongLists)
	}
}

// All promises

// sameErrors checks that each function returns an error for a job and indexes, and nothing else.
func sameErrors(t *testing.T, j api.Job, x, y int, want api.Errno) {
	t.Helper()
	sameRelation(t, j, x, y, 0, want)
	sameLevels(t, j, nil, want)
	sameDeepest(t, j, nil, want)
	sameSorted(t, j, nil, false, want)
	sameSorted(t, j, [][]int{{x, y}, {y}}, false, want)
}

// The error of Valid comes before that of an index, and a job with an error is never sorted.
func TestP11WrongJobs(t *testing.T) {
	for _, c := range wrongJobs() {
		n := len(c.j.Items)
		for _, x := range append(integers(), n-1, n) {
			sameErrors(t, c.j, x, 0, c.want)
			sameErrors(t, c.j, 0, x, c.want)
			sameErrors(t, c.j, x, x, c.want)
		}
	}
}

// Lists that would sort a job do not so if the job has an error.
func TestP11WrongJobsSorted(t *testing.T) {
	j := blocks(0, 1)
	sameSorted(t, j, [][]int{{0, 1}}, true, api.OK)
	j.Weight = 13
	sameSorted(t, j, [][]int{{0, 1}}, false, api.ErrRange)
	j.Weight = 0
	j.Items[0].Round = 1
	sameSorted(t, j, [][]int{{0, 1}}, false, api.ErrOrder)
	sameRelation(t, j, 0, 1, 0, api.ErrOrder)
}

// Writing into a result, up to its capacity, changes no other result and no job.
func TestP11NewMemory(t *testing.T) {
	r := random(5)
	jobs := []api.Job{blocks(1, 3, 0, 2), several(), falling(maxWagons)}
	for range 50 {
		jobs = append(jobs, randomJob(r, 1+r.IntN(maxWagons), 1+r.IntN(3), 1+r.IntN(maxBlocks)))
	}
	for n, j := range jobs {
		for name, f := range map[string]func(api.Job) ([]int, api.Errno){"Levels": job.Levels, "Deepest": job.Deepest} {
			separate(t, fmt.Sprintf("%s of job %d", name, n), j, f)
		}
	}
}

// separate checks that two results of one call share no memory.
func separate(t *testing.T, call string, j api.Job, f func(api.Job) ([]int, api.Errno)) {
	t.Helper()
	before := clone(j)
	first, _ := f(j)
	want := slices.Clone(first)
	second, _ := f(j)
	clear(first[:cap(first)])
	third, _ := f(j)
	if !slices.Equal(second, want) || !slices.Equal(third, want) {
		t.Errorf("%s: %v has become %v and %v", call, want, second, third)
	}
	sameJob(t, call, j, before)
}
