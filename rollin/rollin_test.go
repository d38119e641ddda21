package rollin_test

import (
	"math"
	"slices"
	"testing"

	"humpyard/api"
	"humpyard/job"
	"humpyard/leastcode"
	"humpyard/rollin"
)

// blocks returns a job of one train with items of round 0, with some blocks and the lengths 1, 2, 4 and so on.
func blocks(weight int, l ...int) api.Job {
	j := api.Job{Weight: weight}
	for i, b := range l {
		j.Items = append(j.Items, api.Item{Block: b, Length: 1 << min(i, 8)})
	}
	return j
}

// rounds returns a job whose items are a train and a round, with the lengths 1, 2, 4 and so on.
func rounds(weight int, l ...[2]int) api.Job {
	j := api.Job{Weight: weight}
	for i, x := range l {
		j.Items = append(j.Items, api.Item{Train: x[0], Round: x[1], Length: 1 << min(i, 8)})
	}
	return j
}

func plan(steps int, l ...int) api.Plan {
	return api.Plan{Steps: steps, Codes: l}
}

// four is the job of the document's examples.
func four() api.Job { return blocks(12, 1, 3, 0, 2) }

// late is a job of two trains and three rounds.
func late(weight int) api.Job {
	return rounds(weight, [2]int{0, 0}, [2]int{2, 0}, [2]int{0, 1}, [2]int{2, 2})
}

// full returns a job with as many items as possible, and a plan with which all of them stand on all tracks from a round on.
func full(round int) (api.Job, api.Plan) {
	j, p := api.Job{Weight: 12}, api.Plan{Steps: 12}
	for i := range maxWagons {
		j.Items = append(j.Items, api.Item{Train: i % maxTrains, Block: i % maxBlocks, Round: round, Length: maxLength})
		p.Codes = append(p.Codes, codes-1)
	}
	return j, p
}

// none returns lists without items.
func none(n int) [][]int { return make([][]int, n) }

func clone(j api.Job) api.Job {
	return api.Job{Items: slices.Clone(j.Items), Weight: j.Weight}
}

func clonePlan(p api.Plan) api.Plan {
	return api.Plan{Steps: p.Steps, Codes: slices.Clone(p.Codes)}
}

func sameLists(a, b [][]int) bool { return slices.EqualFunc(a, b, slices.Equal[[]int]) }

// stays returns a function that checks that a job and a plan have stayed as they were.
func stays(t *testing.T, call string, j api.Job, p api.Plan) func() {
	t.Helper()
	jBefore, pBefore := clone(j), clonePlan(p)
	return func() {
		t.Helper()
		if j.Weight != jBefore.Weight || !slices.Equal(j.Items, jBefore.Items) {
			t.Errorf("%s has changed %+v to %+v", call, jBefore, j)
		}
		if p.Steps != pBefore.Steps || !slices.Equal(p.Codes, pBefore.Codes) {
			t.Errorf("%s has changed %+v to %+v", call, pBefore, p)
		}
	}
}

func sameValid(t *testing.T, j api.Job, p api.Plan, want api.Errno) {
	t.Helper()
	check := stays(t, "Valid", j, p)
	if e := rollin.Valid(j, p); e != want {
		t.Errorf("Valid(%+v, %+v): error %d; want %d", j, p, e, want)
	}
	check()
}

func sameContents(t *testing.T, j api.Job, p api.Plan, time int, steps, trains [][]int, want api.Errno) {
	t.Helper()
	check := stays(t, "Contents", j, p)
	a, b, e := rollin.Contents(j, p, time)
	if !sameLists(a, steps) || !sameLists(b, trains) || e != want {
		t.Errorf("Contents(%+v, %+v, %d): %v, %v, error %d; want %v, %v, error %d", j, p, time, a, b, e, steps, trains, want)
	}
	check()
}

func sameRun(t *testing.T, j api.Job, p api.Plan, trains [][]int, moves int, want api.Errno) {
	t.Helper()
	check := stays(t, "Run", j, p)
	s, e := rollin.Run(j, p)
	if !sameLists(s.Trains, trains) || s.Moves != moves || e != want {
		t.Errorf("Run(%+v, %+v): %+v, error %d; want %v, %d, error %d", j, p, s, e, trains, moves, want)
	}
	check()
}

func samePushes(t *testing.T, j api.Job, p api.Plan, pushes int, want api.Errno) {
	t.Helper()
	check := stays(t, "Pushes", j, p)
	if n, e := rollin.Pushes(j, p); n != pushes || e != want {
		t.Errorf("Pushes(%+v, %+v): %d, error %d; want %d, error %d", j, p, n, e, pushes, want)
	}
	check()
}

func sameLoads(t *testing.T, j api.Job, p api.Plan, loads []int, want api.Errno) {
	t.Helper()
	check := stays(t, "Loads", j, p)
	if l, e := rollin.Loads(j, p); !slices.Equal(l, loads) || e != want {
		t.Errorf("Loads(%+v, %+v): %v, error %d; want %v, error %d", j, p, l, e, loads, want)
	}
	check()
}

// refused checks that all functions return an error of Valid, with nothing else.
func refused(t *testing.T, j api.Job, p api.Plan, e api.Errno) {
	t.Helper()
	sameValid(t, j, p, e)
	for _, time := range []int{0, p.Steps, -1, 13, math.MinInt, math.MaxInt} {
		sameContents(t, j, p, time, nil, nil, e)
	}
	sameRun(t, j, p, nil, 0, e)
	samePushes(t, j, p, 0, e)
	sameLoads(t, j, p, nil, e)
}

// sameAsDefined compares all functions with what they must return for a valid job. It says whether the plan fits.
func sameAsDefined(t *testing.T, j api.Job, p api.Plan) bool {
	t.Helper()
	if !isFit(j, p) {
		refused(t, j, p, api.ErrInvalid)
		return false
	}
	sameValid(t, j, p, api.OK)
	for time := range p.Steps + 1 {
		steps, trains := yardBehind(j, p, time).contents()
		sameContents(t, j, p, time, steps, trains, api.OK)
	}
	for _, time := range []int{math.MinInt, -1, p.Steps + 1, math.MaxInt} {
		sameContents(t, j, p, time, nil, nil, api.ErrRange)
	}
	y := yardBehind(j, p, p.Steps)
	_, trains := y.contents()
	sameRun(t, j, p, trains, y.moves, api.OK)
	samePushes(t, j, p, y.pushes, api.OK)
	sameLoads(t, j, p, y.loads(), api.OK)
	return true
}

// wrong is a job that is not valid, with its error.
type wrong struct {
	j api.Job
	e api.Errno
}

// wrongJobs returns jobs with each error of job.Valid.
func wrongJobs() []wrong {
	l := []wrong{
		{api.Job{Items: make([]api.Item, maxWagons+1)}, api.ErrLimit},
		{api.Job{Items: make([]api.Item, 5000), Weight: -1}, api.ErrLimit},
		{api.Job{Weight: -1}, api.ErrRange},
		{api.Job{Weight: maxWeight + 1}, api.ErrRange},
		{blocks(math.MinInt, 1, 0), api.ErrRange},
		{blocks(math.MaxInt, 1, 0), api.ErrRange},
		{rounds(12, [2]int{0, 1}, [2]int{0, 0}), api.ErrOrder},
		{rounds(0, [2]int{1, 0}, [2]int{0, 0}, [2]int{1, 2}, [2]int{0, 1}), api.ErrOrder},
		{rounds(0, [2]int{1, 0}, [2]int{0, 0}, [2]int{maxTrains, 2}, [2]int{0, 1}), api.ErrRange},
	}
	for _, x := range []api.Item{
		{Train: -1, Length: 1}, {Train: maxTrains, Length: 1}, {Train: math.MinInt, Length: 1}, {Train: math.MaxInt, Length: 1},
		{Block: -1, Length: 1}, {Block: maxBlocks, Length: 1}, {Block: math.MinInt, Length: 1}, {Block: math.MaxInt, Length: 1},
		{Round: -1, Length: 1}, {Round: maxRound + 1, Length: 1}, {Round: math.MinInt, Length: 1}, {Round: math.MaxInt, Length: 1},
		{Length: 0}, {Length: maxLength + 1}, {Length: math.MinInt}, {Length: math.MaxInt},
	} {
		l = append(l, wrong{api.Job{Items: []api.Item{x}, Weight: 12}, api.ErrRange})
		// as the last item
		l = append(l, wrong{api.Job{Items: append(four().Items, x), Weight: 12}, api.ErrRange})
	}
	return l
}

// P14.1

func TestP14_1Valid(t *testing.T) {
	for _, c := range []struct {
		j api.Job
		p api.Plan
		e api.Errno
	}{
		{four(), plan(2, 1, 2, 0, 1), api.OK},
		// more steps than the codes need, up to the most
		{four(), plan(3, 1, 2, 0, 1), api.OK},
		{four(), plan(12, 1, 2, 0, 1), api.OK},
		{four(), plan(12, 4095, 4095, 0, 2048), api.OK},
		// a plan that does not sort the job fits all the same
		{four(), plan(0, 0, 0, 0, 0), api.OK},
		{four(), plan(2, 0, 0, 3, 1), api.OK},
		// steps out of their range
		{four(), plan(13, 1, 2, 0, 1), api.ErrInvalid},
		{four(), plan(-1, 0, 0, 0, 0), api.ErrInvalid},
		{four(), plan(64, 0, 0, 0, 0), api.ErrInvalid},
		{four(), plan(math.MaxInt, 0, 0, 0, 0), api.ErrInvalid},
		{four(), plan(math.MinInt, 0, 0, 0, 0), api.ErrInvalid},
		// too few codes and too many
		{four(), plan(2, 1, 2, 0), api.ErrInvalid},
		{four(), plan(2, 1, 2, 0, 1, 0), api.ErrInvalid},
		{four(), plan(2), api.ErrInvalid},
		{four(), plan(0), api.ErrInvalid},
		{api.Job{}, plan(0, 0), api.ErrInvalid},
		{api.Job{Weight: 12}, plan(12, 0), api.ErrInvalid},
		// the first code, one in the middle and the last one are too great, or negative
		{four(), plan(2, 4, 2, 0, 1), api.ErrInvalid},
		{four(), plan(2, 1, 4, 0, 1), api.ErrInvalid},
		{four(), plan(2, 1, 2, 0, 4), api.ErrInvalid},
		{four(), plan(1, 1, 2, 0, 1), api.ErrInvalid},
		{four(), plan(0, 0, 0, 0, 1), api.ErrInvalid},
		{four(), plan(12, 1, 2, 0, 4096), api.ErrInvalid},
		{four(), plan(12, 1, 2, 0, math.MaxInt), api.ErrInvalid},
		{four(), plan(2, -1, 2, 0, 1), api.ErrInvalid},
		{four(), plan(2, 1, 2, 0, -1), api.ErrInvalid},
		{four(), plan(2, 1, 2, 0, math.MinInt), api.ErrInvalid},
		// too many real bits
		{blocks(1, 1, 3, 0, 2), plan(2, 1, 2, 0, 2), api.OK},
		{blocks(1, 1, 3, 0, 2), plan(2, 1, 2, 0, 3), api.ErrInvalid},
		{blocks(0, 0, 0), plan(3, 0, 0), api.OK},
		{blocks(0, 0, 0), plan(3, 0, 4), api.ErrInvalid},
		// the missed bits
		{late(12), plan(3, 5, 6, 3, 3), api.OK},
		{late(0), plan(2, 0, 0, 1, 3), api.OK},
		{late(0), plan(2, 0, 0, 3, 3), api.ErrInvalid},
		{late(12), plan(3, 5, 6, 2, 3), api.ErrInvalid},
		{late(12), plan(3, 5, 6, 3, 5), api.ErrInvalid},
		{late(12), plan(3, 5, 6, 3, 4), api.ErrInvalid},
		{late(12), plan(1, 0, 0, 1, 1), api.ErrInvalid},
		{rounds(0, [2]int{0, 12}), plan(12, 4095), api.OK},
		{rounds(12, [2]int{0, 12}), plan(12, 4094), api.ErrInvalid},
		{rounds(12, [2]int{0, 12}), plan(11, 2047), api.ErrInvalid},
	} {
		if c.e == api.OK {
			sameValid(t, c.j, c.p, api.OK)
		} else {
			refused(t, c.j, c.p, c.e)
		}
		if sameAsDefined(t, c.j, c.p) != (c.e == api.OK) {
			t.Errorf("the definitions say something else about %+v, %+v", c.j, c.p)
		}
	}
}

func TestP14_1NoItems(t *testing.T) {
	for weight := range maxWeight + 1 {
		for steps := -2; steps < 16; steps++ {
			for _, j := range []api.Job{{Weight: weight}, {Items: []api.Item{}, Weight: weight}} {
				for _, p := range []api.Plan{{Steps: steps}, {Steps: steps, Codes: []int{}}} {
					if steps < 0 || steps > 12 {
						refused(t, j, p, api.ErrInvalid)
						continue
					}
					sameAsDefined(t, j, p)
					sameContents(t, j, p, steps, none(steps), nil, api.OK)
					sameRun(t, j, p, nil, 0, api.OK)
					samePushes(t, j, p, 0, api.OK)
					sameLoads(t, j, p, make([]int, steps), api.OK)
				}
			}
		}
	}
}

// The error of the job comes before that of the plan, and both of them before that of the time.
func TestP14_1WrongJob(t *testing.T) {
	for _, c := range wrongJobs() {
		for _, p := range []api.Plan{{}, plan(-1), plan(13, 1), plan(12, make([]int, len(c.j.Items))...), plan(2, slices.Repeat([]int{3}, len(c.j.Items))...)} {
			refused(t, c.j, p, c.e)
		}
	}
}

// Every code of a single item, with the least number of steps that it may have and with one step less.
func TestP14_1AllCodes(t *testing.T) {
	for round := range maxRound + 1 {
		for weight := range maxWeight + 1 {
			j := rounds(weight, [2]int{0, round})
			for k := range codes + 1 {
				steps := stepsOf(k)
				want := api.ErrInvalid
				if k < codes && isOf(k, round, weight) {
					want = api.OK
				}
				if e := rollin.Valid(j, plan(steps, k)); e != want {
					t.Fatalf("Valid: %d steps, code %d, round %d, weight %d: error %d; want %d", steps, k, round, weight, e, want)
				}
				if e := rollin.Valid(j, plan(steps-1, k)); e != api.ErrInvalid {
					t.Fatalf("Valid: %d steps, code %d, round %d, weight %d: error %d", steps-1, k, round, weight, e)
				}
			}
		}
	}
}

// The plans of all jobs of two items, whether they fit or not.
func TestP14_1AllPlans(t *testing.T) {
	fit, other := 0, 0
	for _, weight := range []int{0, 1, 12} {
		eachJob(shape{2, 1, 1, 4}, weight, func(j api.Job) {
			for steps := -1; steps < 5; steps++ {
				for c := range 20 * 20 {
					if sameAsDefined(t, j, plan(steps, c/20-1, c%20-1)) {
						fit++
					} else {
						other++
					}
				}
			}
		})
	}
	if fit < 500 || other < 500 {
		t.Errorf("%d plans fit, %d do not", fit, other)
	}
}

// Plans that fit are spoilt at one place.
func TestP14_1SpoiltPlans(t *testing.T) {
	r := random(1)
	fit, other := 0, 0
	for range 4000 {
		most := r.IntN(maxRound + 1)
		j := randomJob(r, shape{1 + r.IntN(8), 1 + r.IntN(3), 1 + r.IntN(4), 1 + most}, r.IntN(maxWeight+1))
		p := randomPlan(r, j, most+r.IntN(maxSteps+1-most))
		sameAsDefined(t, j, p)
		i := r.IntN(len(p.Codes))
		switch r.IntN(6) {
		case 0:
			p.Codes[i] ^= 1 << r.IntN(13)
		case 1:
			p.Codes[i] += r.IntN(9) - 4
		case 2:
			p.Codes = slices.Delete(p.Codes, i, i+1)
		case 3:
			p.Codes = slices.Insert(p.Codes, i, p.Codes[i])
		case 4:
			p.Steps = r.IntN(15) - 1
		case 5:
			j.Weight = r.IntN(j.Weight + 1)
		}
		if sameAsDefined(t, j, p) {
			fit++
		} else {
			other++
		}
	}
	if fit < 500 || other < 500 {
		t.Errorf("%d plans fit, %d do not", fit, other)
	}
}

// P14.2

func TestP14_2Contents(t *testing.T) {
	for _, c := range []struct {
		j             api.Job
		p             api.Plan
		time          int
		steps, trains [][]int
	}{
		{four(), plan(2, 1, 2, 0, 1), 0, [][]int{{0, 3}, {1}}, [][]int{{2}}},
		{four(), plan(2, 1, 2, 0, 1), 1, [][]int{nil, {1}}, [][]int{{2, 0, 3}}},
		{four(), plan(2, 1, 2, 0, 1), 2, none(2), [][]int{{2, 0, 3, 1}}},
		// an item with two bits goes from the one sorting track to the other, behind what stands there
		{four(), plan(2, 3, 2, 1, 3), 0, [][]int{{0, 2, 3}, {1}}, [][]int{nil}},
		{four(), plan(2, 3, 2, 1, 3), 1, [][]int{nil, {1, 0, 3}}, [][]int{{2}}},
		{four(), plan(2, 3, 2, 1, 3), 2, none(2), [][]int{{2, 1, 0, 3}}},
		// without steps, the items go to their trains
		{four(), plan(0, 0, 0, 0, 0), 0, nil, [][]int{{0, 1, 2, 3}}},
		// a step at which nothing is pushed changes nothing
		{four(), plan(3, 4, 4, 0, 4), 0, [][]int{nil, nil, {0, 1, 3}}, [][]int{{2}}},
		{four(), plan(3, 4, 4, 0, 4), 2, [][]int{nil, nil, {0, 1, 3}}, [][]int{{2}}},
		{four(), plan(3, 4, 4, 0, 4), 3, none(3), [][]int{{2, 0, 1, 3}}},
		// items of later rounds stand behind those of the sorting track, and a train without items has a track
		{late(12), plan(3, 5, 6, 3, 3), 0, [][]int{{0}, {1}, nil}, none(3)},
		{late(12), plan(3, 5, 6, 3, 3), 1, [][]int{nil, {1, 2}, {0}}, none(3)},
		{late(12), plan(3, 5, 6, 3, 3), 2, [][]int{nil, nil, {0, 1}}, [][]int{{2}, nil, {3}}},
		{late(12), plan(3, 5, 6, 3, 3), 3, none(3), [][]int{{2, 0}, nil, {3, 1}}},
		// a missed bit is no step, though it is set
		{rounds(12, [2]int{0, 3}), plan(3, 7), 0, none(3), none(1)},
		{rounds(12, [2]int{0, 3}), plan(3, 7), 2, none(3), none(1)},
		{rounds(12, [2]int{0, 3}), plan(3, 7), 3, none(3), [][]int{{0}}},
		{rounds(12, [2]int{1, 1}, [2]int{0, 1}), plan(3, 5, 1), 0, none(3), none(2)},
		{rounds(12, [2]int{1, 1}, [2]int{0, 1}), plan(3, 5, 1), 1, [][]int{nil, nil, {0}}, [][]int{{1}, nil}},
		{rounds(12, [2]int{1, 1}, [2]int{0, 1}), plan(3, 5, 1), 2, [][]int{nil, nil, {0}}, [][]int{{1}, nil}},
		{rounds(12, [2]int{1, 1}, [2]int{0, 1}), plan(3, 5, 1), 3, none(3), [][]int{{1}, {0}}},
		// the first track and the last one
		{rounds(12, [2]int{15, 0}, [2]int{0, 0}), plan(12, 2049, 2048), 0, append(append([][]int{{0}}, none(10)...), []int{1}), none(16)},
		{rounds(12, [2]int{15, 0}, [2]int{0, 0}), plan(12, 2049, 2048), 11, append(none(11), []int{1, 0}), none(16)},
		{rounds(12, [2]int{15, 0}, [2]int{0, 0}), plan(12, 2049, 2048), 12, none(12), append(append([][]int{{1}}, none(14)...), []int{0})},
		{api.Job{}, plan(2), 1, none(2), nil},
		{api.Job{}, api.Plan{}, 0, nil, nil},
	} {
		sameContents(t, c.j, c.p, c.time, c.steps, c.trains, api.OK)
		sameAsDefined(t, c.j, c.p)
	}
}

func TestP14_2ContentsTimes(t *testing.T) {
	for _, time := range []int{-1, 3, 12, 13, math.MinInt, math.MaxInt, 1 << 40} {
		sameContents(t, four(), plan(2, 1, 2, 0, 1), time, nil, nil, api.ErrRange)
		sameContents(t, api.Job{}, plan(2), time, nil, nil, api.ErrRange)
	}
	sameContents(t, four(), plan(0, 0, 0, 0, 0), 1, nil, nil, api.ErrRange)
	sameContents(t, four(), plan(12, 1, 2, 0, 1), 13, nil, nil, api.ErrRange)
	sameContents(t, four(), plan(12, 1, 2, 0, 1), 12, none(12), [][]int{{2, 0, 3, 1}}, api.OK)
}

func TestP14_2Run(t *testing.T) {
	for _, c := range []struct {
		j             api.Job
		p             api.Plan
		trains        [][]int
		moves, pushes int
	}{
		{four(), plan(2, 1, 2, 0, 1), [][]int{{2, 0, 3, 1}}, 7, 3},
		{four(), plan(0, 0, 0, 0, 0), [][]int{{0, 1, 2, 3}}, 4, 1},
		{four(), plan(2, 3, 2, 1, 3), [][]int{{2, 1, 0, 3}}, 10, 3},
		// an item alone is pushed at the time of its round, and again for each real bit
		{rounds(12, [2]int{0, 3}), plan(3, 7), [][]int{{0}}, 1, 1},
		{rounds(12, [2]int{0, 3}), plan(5, 31), [][]int{{0}}, 3, 3},
		{rounds(12, [2]int{0, 0}), plan(5, 31), [][]int{{0}}, 6, 6},
		{rounds(12, [2]int{0, 0}), plan(12, 4095), [][]int{{0}}, 13, 13},
		{rounds(12, [2]int{0, 12}), plan(12, 4095), [][]int{{0}}, 1, 1},
		// steps at which nothing is pushed
		{four(), plan(3, 4, 4, 4, 4), [][]int{{0, 1, 2, 3}}, 8, 2},
		{four(), plan(12, 1, 2, 0, 1), [][]int{{2, 0, 3, 1}}, 7, 3},
		// nothing is pushed at the time 0
		{rounds(12, [2]int{1, 1}, [2]int{0, 1}), plan(3, 5, 1), [][]int{{1}, {0}}, 3, 2},
		{late(12), plan(3, 5, 6, 3, 3), [][]int{{2, 0}, nil, {3, 1}}, 9, 4},
		{late(12), plan(2, 0, 0, 1, 3), [][]int{{0, 2}, nil, {1, 3}}, 4, 3},
		// items of one code stand in the order of the list, though they are of several rounds
		{rounds(12, [2]int{0, 0}, [2]int{0, 1}, [2]int{0, 2}), plan(2, 3, 3, 3), [][]int{{0, 1, 2}}, 6, 3},
		{api.Job{}, plan(4), nil, 0, 0},
		{api.Job{}, api.Plan{}, nil, 0, 0},
	} {
		sameRun(t, c.j, c.p, c.trains, c.moves, api.OK)
		samePushes(t, c.j, c.p, c.pushes, api.OK)
		sameAsDefined(t, c.j, c.p)
	}
}

// The most items, with as many pushes as there can be for each round.
func TestP14_2Longest(t *testing.T) {
	want := none(maxTrains)
	for i := range maxWagons {
		want[i%maxTrains] = append(want[i%maxTrains], i)
	}
	for round := range maxRound + 1 {
		j, p := full(round)
		sameRun(t, j, p, want, maxWagons*(13-round), api.OK)
		samePushes(t, j, p, 13-round, api.OK)
		sameAsDefined(t, j, p)
	}
}

// All jobs with few items, with all plans of few steps.
func TestP14AllSmallJobs(t *testing.T) {
	plans := 0
	for _, s := range []shape{{1, 2, 1, 4}, {2, 2, 1, 3}, {3, 1, 1, 3}, {3, 2, 1, 1}, {4, 1, 1, 1}} {
		for _, weight := range []int{1, 12} {
			eachJob(s, weight, func(j api.Job) {
				for steps := range 4 {
					if len(j.Items) == 4 && steps > 2 {
						continue
					}
					eachPlan(j, steps, func(p api.Plan) {
						plans++
						sameAsDefined(t, j, p)
					})
				}
			})
		}
	}
	if plans < 5000 {
		t.Errorf("only %d plans", plans)
	}
}

// Random jobs of all lengths, with few and many trains, rounds, steps and real bits.
func TestP14RandomJobs(t *testing.T) {
	r := random(2)
	bySteps := [maxSteps + 1]int{}
	for n := range 8 * (maxWagons + 1) {
		most := r.IntN(maxRound + 1)
		weight := []int{0, 1, 2, 6, 12}[r.IntN(5)]
		j := randomJob(r, shape{n % (maxWagons + 1), 1 + r.IntN(maxTrains), 1 + r.IntN(maxBlocks), 1 + r.IntN(most+1)}, weight)
		p := randomPlan(r, j, most+r.IntN(maxSteps+1-most))
		if !sameAsDefined(t, j, p) {
			t.Fatalf("%+v does not fit %+v", p, j)
		}
		bySteps[p.Steps]++
	}
	for steps, n := range bySteps {
		if n < 3 {
			t.Errorf("%d steps: only %d plans", steps, n)
		}
	}
}

// At each time, an item of a round up to it stands on the track of the least bit of its code that is at least the time and set; and on each track the items stand in the order of the bits below it.
func TestP14_2Places(t *testing.T) {
	r := random(3)
	for range 300 {
		most := r.IntN(6)
		j := randomJob(r, shape{r.IntN(20), 1 + r.IntN(3), 3, 1 + most}, r.IntN(maxWeight+1))
		p := randomPlan(r, j, most+r.IntN(7))
		for time := range p.Steps + 1 {
			steps, trains := none(p.Steps), none(trainsOf(j))
			for x, item := range j.Items {
				switch rest := p.Codes[x] >> time << time; {
				case item.Round > time:
				case rest == 0:
					trains[item.Train] = append(trains[item.Train], x)
				default:
					b := stepsOf(rest&-rest) - 1
					steps[b] = append(steps[b], x)
				}
			}
			for b, l := range steps {
				slices.SortStableFunc(l, func(x, y int) int { return p.Codes[x]%(1<<b) - p.Codes[y]%(1<<b) })
			}
			for _, l := range trains {
				slices.SortStableFunc(l, func(x, y int) int { return p.Codes[x] - p.Codes[y] })
			}
			sameContents(t, j, p, time, steps, trains, api.OK)
		}
	}
}

// Run sorts a job exactly if the codes are in the order that the items need.
func TestP14_2Sorts(t *testing.T) {
	r := random(4)
	sorts, other := 0, 0
	for range 20000 {
		j := randomJob(r, shape{r.IntN(6), 1 + r.IntN(2), 1 + r.IntN(4), 1 + r.IntN(3)}, r.IntN(maxWeight+1))
		p := randomPlan(r, j, 2+r.IntN(3))
		want := true
		for x := range j.Items {
			for y := range j.Items {
				// The relation is 0, or 1 more than what the code of y must be greater by.
				if n, _ := job.Relation(j, x, y); n > 0 && p.Codes[x]+n-1 > p.Codes[y] {
					want = false
				}
			}
		}
		s, e := rollin.Run(j, p)
		got, f := job.Sorted(j, s.Trains)
		if got != want || e != api.OK || f != api.OK {
			t.Fatalf("Run(%+v, %+v): %v, errors %d, %d; sorts %v, want %v", j, p, s, e, f, got, want)
		}
		if want {
			sorts++
		} else {
			other++
		}
	}
	if sorts < 2000 || other < 2000 {
		t.Errorf("%d plans sort, %d do not", sorts, other)
	}
}

// The plan with the least codes sorts the job. Without later rounds, there is a push at each time.
func TestP14_2LeastCodes(t *testing.T) {
	r := random(5)
	plans := 0
	for n := range 4 * maxWagons {
		s := shape{1 + n%maxWagons, 1 + r.IntN(4), 1 + r.IntN(10), 1 + r.IntN(2)*r.IntN(4)}
		j := randomJob(r, s, r.IntN(maxWeight+1))
		p, e := leastcode.Least(j)
		if e != api.OK {
			continue
		}
		plans++
		sameAsDefined(t, j, p)
		run, _ := rollin.Run(j, p)
		if ok, _ := job.Sorted(j, run.Trains); !ok {
			t.Errorf("Run(%+v, %+v): %v is not sorted", j, p, run)
		}
		if s.rounds == 1 {
			samePushes(t, j, p, p.Steps+1, api.OK)
		}
	}
	if plans < 100 {
		t.Errorf("only %d plans", plans)
	}
}

// P14.3

func TestP14_3Loads(t *testing.T) {
	for _, c := range []struct {
		j     api.Job
		p     api.Plan
		loads []int
	}{
		{four(), plan(2, 1, 2, 0, 1), []int{1 + 8, 2, 15}},
		{four(), plan(0, 0, 0, 0, 0), []int{15}},
		// an item with two bits stands on two sorting tracks
		{four(), plan(2, 3, 2, 1, 3), []int{1 + 4 + 8, 1 + 2 + 8, 15}},
		// sorting tracks that stay empty
		{four(), plan(3, 4, 4, 0, 4), []int{0, 0, 1 + 2 + 8, 15}},
		{four(), plan(5, 1, 2, 0, 1), []int{1 + 8, 2, 0, 0, 0, 15}},
		// a missed bit is no step, though it is set
		{rounds(12, [2]int{0, 3}), plan(3, 7), []int{0, 0, 0, 1}},
		{rounds(12, [2]int{0, 3}), plan(5, 31), []int{0, 0, 0, 1, 1, 1}},
		{late(12), plan(3, 5, 6, 3, 3), []int{1, 2 + 4, 1 + 2, 1 + 4, 0, 2 + 8}},
		{late(12), plan(2, 0, 0, 1, 3), []int{0, 0, 1 + 4, 0, 2 + 8}},
		{rounds(12, [2]int{1, 1}, [2]int{0, 1}), plan(3, 5, 1), []int{0, 0, 1, 2, 1}},
		{rounds(12, [2]int{3, 0}), plan(1, 0), []int{0, 0, 0, 0, 1}},
		{api.Job{}, plan(4), []int{0, 0, 0, 0}},
		{api.Job{}, api.Plan{}, nil},
	} {
		sameLoads(t, c.j, c.p, c.loads, api.OK)
		sameAsDefined(t, c.j, c.p)
	}
}

// All items, of the greatest length, stand on all sorting tracks from their round on.
func TestP14_3Greatest(t *testing.T) {
	for round := range maxRound + 1 {
		j, p := full(round)
		want := append(make([]int, round), slices.Repeat([]int{maxWagons * maxLength}, 12-round)...)
		want = append(want, slices.Repeat([]int{maxWagons / maxTrains * maxLength}, maxTrains)...)
		sameLoads(t, j, p, want, api.OK)
	}
}

// Whatever is on a sorting track at a time is a part of its load; no item stands on it twice.
func TestP14_3AllTimes(t *testing.T) {
	r := random(6)
	for range 200 {
		most := r.IntN(maxRound + 1)
		j := randomJob(r, shape{r.IntN(20), 1 + r.IntN(3), 3, 1 + most}, r.IntN(maxWeight+1))
		p := randomPlan(r, j, most+r.IntN(maxSteps+1-most))
		stood := make([]map[int]bool, p.Steps+trainsOf(j))
		want := make([]int, len(stood))
		for time := range p.Steps + 1 {
			steps, trains, _ := rollin.Contents(j, p, time)
			for place, l := range slices.Concat(steps, trains) {
				for _, x := range l {
					if !stood[place][x] {
						want[place] += j.Items[x].Length
					}
					if stood[place] == nil {
						stood[place] = map[int]bool{}
					}
					stood[place][x] = true
				}
			}
		}
		sameLoads(t, j, p, want, api.OK)
	}
}

// Results are new memory.

// fill writes a number of its own over each list, up to its capacity, and returns a function that says whether all of them still have their number.
func fill(lists ...[][]int) func() bool {
	number := 1000
	for _, list := range lists {
		for _, l := range list {
			number++
			for i := range l[:cap(l)] {
				l[:cap(l)][i] = number
			}
		}
	}
	return func() bool {
		number := 1000
		for _, list := range lists {
			for _, l := range list {
				number++
				if slices.ContainsFunc(l[:cap(l)], func(n int) bool { return n != number }) {
					return false
				}
			}
		}
		return true
	}
}

// mixed is a job with a plan, with several items on most tracks at most times.
func mixed() (api.Job, api.Plan) {
	r := random(7)
	j := randomJob(r, shape{40, 3, 4, 3}, 12)
	return j, randomPlan(r, j, 5)
}

func TestP14_2ContentsNewMemory(t *testing.T) {
	j, p := mixed()
	jBefore, pBefore := clone(j), clonePlan(p)
	for time := range p.Steps + 1 {
		steps, trains, _ := rollin.Contents(j, p, time)
		otherSteps, otherTrains, _ := rollin.Contents(j, p, time)
		if !fill(steps, trains, otherSteps, otherTrains)() {
			t.Errorf("Contents at %d: lists share memory", time)
		}
		before := slices.Clone(trains)
		clear(steps[:cap(steps)])
		if !sameLists(trains, before) {
			t.Errorf("Contents at %d: the tracks of the trains share memory with the sorting tracks", time)
		}
		clear(trains[:cap(trains)])
		if !slices.Equal(j.Items, jBefore.Items) || !slices.Equal(p.Codes, pBefore.Codes) {
			t.Errorf("Contents at %d shares memory with its arguments", time)
		}
		wantSteps, wantTrains := yardBehind(j, p, time).contents()
		sameContents(t, j, p, time, wantSteps, wantTrains, api.OK)
	}
}

func TestP14_2RunNewMemory(t *testing.T) {
	j, p := mixed()
	jBefore, pBefore := clone(j), clonePlan(p)
	first, _ := rollin.Run(j, p)
	second, _ := rollin.Run(j, p)
	if !fill(first.Trains, second.Trains)() {
		t.Error("Run: lists share memory")
	}
	clear(first.Trains[:cap(first.Trains)])
	clear(second.Trains[:cap(second.Trains)])
	if !slices.Equal(j.Items, jBefore.Items) || !slices.Equal(p.Codes, pBefore.Codes) {
		t.Error("Run shares memory with its arguments")
	}
	sameAsDefined(t, j, p)
}

func TestP14_3LoadsNewMemory(t *testing.T) {
	j, p := mixed()
	first, _ := rollin.Loads(j, p)
	second, _ := rollin.Loads(j, p)
	want := slices.Clone(second)
	clear(first[:cap(first)])
	if !slices.Equal(second, want) {
		t.Errorf("Loads: %v; want %v", second, want)
	}
	sameAsDefined(t, j, p)
}
