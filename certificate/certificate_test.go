package certificate_test

import (
	"bytes"
	"math"
	"slices"
	"testing"

	"humpyard/api"
	"humpyard/certificate"
	"humpyard/job"
	"humpyard/leastcode"
	"humpyard/rollin"
)

// blocks returns a job of one train with items of round 0 and some blocks.
func blocks(weight int, l ...int) api.Job {
	j := api.Job{Weight: weight}
	for _, b := range l {
		j.Items = append(j.Items, api.Item{Block: b, Length: 1})
	}
	return j
}

// rounds returns a job of one train; an item is a block and a round.
func rounds(weight int, l ...[2]int) api.Job {
	j := api.Job{Weight: weight}
	for _, x := range l {
		j.Items = append(j.Items, api.Item{Block: x[0], Round: x[1], Length: 1})
	}
	return j
}

func proof(steps int, codes, chain []int) api.Proof {
	return api.Proof{Plan: api.Plan{Steps: steps, Codes: codes}, Chain: chain}
}

// four is the job of the document's examples.
func four() api.Job { return blocks(12, 1, 3, 0, 2) }

// down returns the numbers from n - 1 down to 0.
func down(n int) []int {
	var l []int
	for i := range n {
		l = append(l, n-1-i)
	}
	return l
}

// full returns a job with as many items as possible, in the reverse order of their blocks as far as there are blocks.
func full(weight int) api.Job {
	return blocks(weight, append(down(maxBlocks), make([]int, maxWagons-maxBlocks)...)...)
}

// wrongJobs returns jobs with each error of job.Valid.
func wrongJobs() []api.Job {
	l := []api.Job{
		{Items: make([]api.Item, maxWagons+1)},
		{Items: make([]api.Item, 5000), Weight: -1},
		{Weight: -1}, {Weight: maxWeight + 1}, {Weight: math.MinInt}, {Weight: math.MaxInt},
		rounds(12, [2]int{0, 1}, [2]int{0, 0}),
		rounds(0, [2]int{1, 0}, [2]int{0, 2}, [2]int{5, 1}),
	}
	for _, n := range []int{-1, 0, maxRound + 1, maxTrains, maxBlocks, maxLength + 1, math.MinInt, math.MaxInt} {
		for _, x := range []api.Item{{Train: n, Length: 1}, {Block: n, Length: 1}, {Round: n, Length: 1}, {Length: n}} {
			for _, j := range []api.Job{{Items: []api.Item{x}}, {Items: append(blocks(0, 1, 0).Items, x)}} {
				if job.Valid(j) != api.OK {
					l = append(l, j)
				}
			}
		}
	}
	return l
}

func cloneJob(j api.Job) api.Job {
	return api.Job{Items: slices.Clone(j.Items), Weight: j.Weight}
}

func cloneProof(p api.Proof) api.Proof {
	return proof(p.Plan.Steps, slices.Clone(p.Plan.Codes), slices.Clone(p.Chain))
}

func isSame(a, b api.Proof) bool {
	return a.Plan.Steps == b.Plan.Steps && slices.Equal(a.Plan.Codes, b.Plan.Codes) && slices.Equal(a.Chain, b.Chain)
}

// stays checks that the arguments of a call have stayed as they were.
func stays(t *testing.T, call string, j, jBefore api.Job, p, pBefore api.Proof) {
	t.Helper()
	if j.Weight != jBefore.Weight || !slices.Equal(j.Items, jBefore.Items) {
		t.Errorf("%s has changed %+v to %+v", call, jBefore, j)
	}
	if !isSame(p, pBefore) {
		t.Errorf("%s has changed %+v to %+v", call, pBefore, p)
	}
}

func sameMake(t *testing.T, j api.Job, want api.Proof, wantError api.Errno) {
	t.Helper()
	before := cloneJob(j)
	if p, e := certificate.Make(j); !isSame(p, want) || e != wantError {
		t.Errorf("Make(%+v): %+v, error %d; want %+v, error %d", j, p, e, want, wantError)
	}
	stays(t, "Make", j, before, api.Proof{}, api.Proof{})
}

func sameCheck(t *testing.T, j api.Job, p api.Proof, want api.Errno) {
	t.Helper()
	jBefore, pBefore := cloneJob(j), cloneProof(p)
	if e := certificate.Check(j, p); e != want {
		t.Errorf("Check(%+v, %+v): error %d; want %d", j, p, e, want)
	}
	stays(t, "Check", j, jBefore, p, pBefore)
}

func sameEncode(t *testing.T, p api.Proof, want []byte, wantError api.Errno) {
	t.Helper()
	before := cloneProof(p)
	if b, e := certificate.Encode(p); !bytes.Equal(b, want) || e != wantError {
		t.Errorf("Encode(%+v): %v, error %d; want %v, error %d", p, b, e, want, wantError)
	}
	stays(t, "Encode", api.Job{}, api.Job{}, p, before)
}

func sameDecode(t *testing.T, b []byte, want api.Proof, wantError api.Errno) {
	t.Helper()
	before := bytes.Clone(b)
	if p, e := certificate.Decode(b); !isSame(p, want) || e != wantError {
		t.Errorf("Decode(%v): %+v, error %d; want %+v, error %d", b, p, e, want, wantError)
	}
	if !bytes.Equal(b, before) {
		t.Errorf("Decode has changed %v to %v", before, b)
	}
}

// P15.1

func TestP15_1Make(t *testing.T) {
	for _, c := range []struct {
		j api.Job
		p api.Proof
	}{
		{four(), proof(2, []int{1, 2, 0, 1}, []int{2, 0, 3, 1})},
		{blocks(1, 1, 3, 0, 2), proof(2, []int{1, 2, 0, 1}, []int{2, 0, 3, 1})},
		{blocks(1, 3, 2, 1, 0), proof(3, []int{4, 2, 1, 0}, []int{3, 2, 1, 0})},
		{rounds(12, [2]int{1, 0}, [2]int{0, 1}), proof(2, []int{2, 1}, []int{1, 0})},
		{rounds(0, [2]int{9, 3}), proof(3, []int{7}, []int{0})},
		// without steps, an item is a chain all the same
		{blocks(12, 5), proof(0, []int{0}, []int{0})},
		{blocks(0, 0, 0, 1), proof(0, []int{0, 0, 0}, []int{0})},
		{full(12), proof(5, append(down(maxBlocks), make([]int, maxWagons-maxBlocks)...), down(maxBlocks))},
	} {
		sameMake(t, c.j, c.p, api.OK)
		sameCheck(t, c.j, c.p, api.OK)
	}
}

func TestP15_1NoItems(t *testing.T) {
	for weight := range maxWeight + 1 {
		for _, j := range []api.Job{{Weight: weight}, {Items: []api.Item{}, Weight: weight}} {
			sameMake(t, j, api.Proof{}, api.OK)
			sameCheck(t, j, api.Proof{}, api.OK)
		}
	}
}

func TestP15_1Errors(t *testing.T) {
	for _, j := range wrongJobs() {
		sameMake(t, j, api.Proof{}, job.Valid(j))
	}
	for _, j := range []api.Job{
		blocks(0, 1, 0),
		blocks(1, down(14)...),
		rounds(12, [2]int{1, 12}, [2]int{0, 12}),
		rounds(12, [2]int{1, 0}, [2]int{0, 12}),
		rounds(0, [2]int{5, 0}, [2]int{1, 0}, [2]int{7, 2}),
	} {
		sameMake(t, j, api.Proof{}, api.ErrNone)
	}
}

// Random jobs of all lengths: the plan and the chain are those of package leastcode, and they are a proof.
func TestP15_1RandomJobs(t *testing.T) {
	r := random(1)
	with, without := 0, 0
	for n := range 10 * (maxWagons + 1) {
		s := shape{n % (maxWagons + 1), 1 + r.IntN(maxTrains), 1 + r.IntN(maxBlocks), 1 + r.IntN(maxRound+1)}
		if r.IntN(2) == 0 {
			s.trains, s.rounds = 1+r.IntN(3), 1+r.IntN(3)
		}
		j := randomJob(r, s, []int{0, 1, 2, 5, 12}[r.IntN(5)])
		plan, planError := leastcode.Least(j)
		chain, chainError := leastcode.Witness(j)
		if planError != chainError {
			t.Fatalf("Least(%+v): error %d; Witness: error %d", j, planError, chainError)
		}
		sameMake(t, j, api.Proof{Plan: plan, Chain: chain}, planError)
		if planError != api.OK {
			without++
			continue
		}
		with++
		p, _ := certificate.Make(j)
		sameCheck(t, j, p, checkOf(j, p))
		sameCheck(t, j, p, api.OK)
	}
	if with < 200 || without < 200 {
		t.Errorf("%d jobs with a plan, %d without", with, without)
	}
}

// Writing into a proof, up to its capacity, changes neither another proof nor the job, and into one list not the other one.
func TestP15_1NewMemory(t *testing.T) {
	for _, j := range []api.Job{four(), full(12), blocks(0, 5), rounds(12, [2]int{1, 0}, [2]int{0, 1})} {
		before := cloneJob(j)
		first, _ := certificate.Make(j)
		second, _ := certificate.Make(j)
		want := cloneProof(first)
		overwrite(first.Plan.Codes)
		if !slices.Equal(first.Chain, want.Chain) {
			t.Errorf("Make(%+v): the chain shares memory with the codes", j)
		}
		overwrite(first.Chain)
		if !isSame(second, want) {
			t.Errorf("Make(%+v): %+v has become %+v", j, want, second)
		}
		stays(t, "writing", j, before, api.Proof{}, api.Proof{})
		sameMake(t, j, want, api.OK)
	}
}

// overwrite writes over a list up to its capacity.
func overwrite(l []int) {
	for i := range l[:cap(l)] {
		l[:cap(l)][i] = -77
	}
}

// P15.2

func TestP15_2Check(t *testing.T) {
	chain := []int{2, 0, 3, 1}
	for _, c := range []struct {
		steps        int
		codes, chain []int
		e            api.Errno
	}{
		{2, []int{1, 2, 0, 1}, chain, api.OK},
		// codes that are not the least ones
		{2, []int{1, 3, 0, 1}, chain, api.OK},
		{2, []int{2, 3, 0, 2}, chain, api.OK},
		{2, []int{2, 3, 1, 2}, chain, api.OK},
		{2, []int{1, 3, 0, 2}, chain, api.OK},
		// each pair that comes strictly one before the other: equal codes, and greater ones
		{2, []int{1, 2, 1, 1}, chain, api.ErrOrder},
		{2, []int{1, 2, 2, 1}, chain, api.ErrOrder},
		{2, []int{1, 1, 0, 1}, chain, api.ErrOrder},
		{2, []int{1, 2, 0, 2}, chain, api.ErrOrder},
		// the pair 0, 3 that comes weakly one before the other
		{2, []int{2, 3, 0, 1}, chain, api.ErrOrder},
		{2, []int{3, 2, 0, 1}, chain, api.ErrOrder},
		// the plan does not fit
		{1, []int{1, 2, 0, 1}, chain, api.ErrInvalid},
		{2, []int{1, 4, 0, 1}, chain, api.ErrInvalid},
		{2, []int{1, 2, -1, 1}, chain, api.ErrInvalid},
		{2, []int{1, 2, 0}, chain, api.ErrInvalid},
		{2, []int{1, 2, 0, 1, 2}, chain, api.ErrInvalid},
		{2, nil, chain, api.ErrInvalid},
		{13, []int{1, 2, 0, 1}, chain, api.ErrInvalid},
		{-1, []int{0, 0, 0, 0}, chain, api.ErrInvalid},
		{math.MinInt, []int{1, 2, 0, 1}, chain, api.ErrInvalid},
		{math.MaxInt, []int{1, 2, 0, 1}, chain, api.ErrInvalid},
		// more steps than are needed, whether the codes need them or not
		{3, []int{1, 2, 0, 1}, chain, api.ErrConflict},
		{12, []int{1, 2, 0, 1}, chain, api.ErrConflict},
		{3, []int{4, 5, 0, 4}, chain, api.ErrConflict},
		// chains with a lesser bound
		{2, []int{1, 2, 0, 1}, []int{2, 0}, api.ErrConflict},
		{2, []int{1, 2, 0, 1}, []int{2, 0, 1}, api.ErrConflict},
		{2, []int{1, 2, 0, 1}, []int{2, 0, 3}, api.ErrConflict},
		{2, []int{1, 2, 0, 1}, []int{3, 1}, api.ErrConflict},
		{2, []int{1, 2, 0, 1}, []int{1}, api.ErrConflict},
		{2, []int{1, 2, 0, 1}, nil, api.ErrConflict},
		// lists that are no chains
		{2, []int{1, 2, 0, 1}, []int{0, 2}, api.ErrInvalid},
		{2, []int{1, 2, 0, 1}, []int{2, 0, 3, 1, 1}, api.ErrInvalid},
		{2, []int{1, 2, 0, 1}, []int{2, 2, 0, 3, 1}, api.ErrInvalid},
		{2, []int{1, 2, 0, 1}, []int{2, 0, 3, 4}, api.ErrInvalid},
		{2, []int{1, 2, 0, 1}, []int{-1}, api.ErrInvalid},
		{2, []int{1, 2, 0, 1}, []int{math.MaxInt, 2, 0, 3, 1}, api.ErrInvalid},
		{2, []int{1, 2, 0, 1}, []int{2, 0, 3, 1, math.MinInt}, api.ErrInvalid},
	} {
		sameCheck(t, four(), proof(c.steps, c.codes, c.chain), c.e)
		sameCheck(t, four(), proof(c.steps, c.codes, c.chain), checkOf(four(), proof(c.steps, c.codes, c.chain)))
	}
}

// The number of steps is the bit length of the bound, also where the bound is less than the codes of the plan.
func TestP15_2BitLengths(t *testing.T) {
	for n := 1; n <= maxBlocks; n++ {
		p := proof(0, down(n), down(n))
		steps := 0
		for n > limitOf(steps) {
			steps++
		}
		for p.Plan.Steps = range maxSteps + 1 {
			want := api.ErrConflict
			switch {
			case p.Plan.Steps < steps:
				want = api.ErrInvalid
			case p.Plan.Steps == steps:
				want = api.OK
			}
			sameCheck(t, blocks(12, down(n)...), p, want)
		}
	}
	sameCheck(t, blocks(12, down(3)...), proof(2, []int{3, 1, 0}, []int{1, 0}), api.ErrConflict)
	sameCheck(t, blocks(12, down(3)...), proof(2, []int{3, 1, 0}, down(3)), api.OK)
	// with the weight 1, the least codes along the chain are 0, 1, 2 and 4
	sameCheck(t, blocks(1, down(4)...), proof(3, []int{4, 2, 1, 0}, []int{3, 2, 1}), api.ErrConflict)
	sameCheck(t, blocks(1, down(4)...), proof(3, []int{4, 2, 1, 0}, []int{3, 2, 1, 0}), api.OK)
}

// A single item proves as many steps as it has missed, if it is in the chain.
func TestP15_2SingleItem(t *testing.T) {
	for round := range maxRound + 1 {
		j := rounds(12, [2]int{9, round})
		first := limitOf(round) - 1
		sameCheck(t, j, proof(round, []int{first}, []int{0}), api.OK)
		for steps := round + 1; steps <= maxSteps; steps++ {
			sameCheck(t, j, proof(steps, []int{first}, []int{0}), api.ErrConflict)
		}
		want := api.ErrConflict
		if round == 0 {
			want = api.OK
		}
		sameCheck(t, j, proof(round, []int{first}, nil), want)
		sameCheck(t, j, proof(round, []int{first}, []int{1}), api.ErrInvalid)
	}
}

// Items of two trains do not come one before the other.
func TestP15_2Trains(t *testing.T) {
	j := blocks(12, 1, 1, 0, 0)
	j.Items[1].Train, j.Items[3].Train = 4, 4
	for _, c := range []struct {
		codes, chain []int
		e            api.Errno
	}{
		{[]int{1, 1, 0, 0}, []int{2, 0}, api.OK},
		{[]int{1, 1, 0, 0}, []int{3, 1}, api.OK},
		{[]int{1, 1, 0, 0}, []int{2, 1}, api.ErrInvalid},
		{[]int{1, 1, 0, 0}, []int{3, 0}, api.ErrInvalid},
		{[]int{0, 1, 0, 0}, []int{3, 1}, api.ErrOrder},
		{[]int{1, 0, 0, 0}, []int{2, 0}, api.ErrOrder},
	} {
		sameCheck(t, j, proof(1, c.codes, c.chain), c.e)
	}
}

// The error of the job comes first, then that of the plan, ErrOrder, the error of the chain and ErrConflict.
func TestP15_2OrderOfErrors(t *testing.T) {
	for _, j := range wrongJobs() {
		n := len(j.Items)
		for _, p := range []api.Proof{
			{}, proof(13, nil, []int{-1}), proof(0, make([]int, n), nil), proof(2, slices.Repeat([]int{3}, n), []int{0}), proof(2, down(n), []int{1, 0}),
		} {
			sameCheck(t, j, p, job.Valid(j))
		}
	}
	for _, chain := range [][]int{nil, {2, 0}, {2, 0, 3, 1}, {0, 2}, {9}, {-1}} {
		sameCheck(t, four(), proof(2, []int{1, 1, 0}, chain), api.ErrInvalid)
		sameCheck(t, four(), proof(2, []int{0, 0, 0, 4}, chain), api.ErrInvalid)
		sameCheck(t, four(), proof(2, []int{1, 1, 0, 1}, chain), api.ErrOrder)
		sameCheck(t, four(), proof(12, []int{1, 1, 0, 1}, chain), api.ErrOrder)
	}
	for steps := 2; steps <= maxSteps; steps++ {
		sameCheck(t, four(), proof(steps, []int{1, 2, 0, 1}, []int{9}), api.ErrInvalid)
		sameCheck(t, four(), proof(steps, []int{1, 2, 0, 1}, []int{0, 2}), api.ErrInvalid)
	}
	// a chain without a bound belongs to a job without a plan, so that the codes are not in order
	sameCheck(t, blocks(0, 1, 0), proof(0, []int{0, 0}, []int{1, 0}), api.ErrOrder)
	sameCheck(t, blocks(0, 1, 0), proof(1, []int{1, 0}, []int{1, 0}), api.ErrInvalid)
}

func TestP15_2NoItems(t *testing.T) {
	for steps := -1; steps <= maxSteps+1; steps++ {
		want := api.ErrConflict
		switch steps {
		case 0:
			want = api.OK
		case -1, maxSteps + 1:
			want = api.ErrInvalid
		}
		sameCheck(t, api.Job{Weight: 3}, proof(steps, nil, nil), want)
		sameCheck(t, api.Job{Items: []api.Item{}}, proof(steps, []int{}, []int{}), want)
		sameCheck(t, api.Job{}, proof(steps, nil, []int{0}), api.ErrInvalid)
		sameCheck(t, api.Job{}, proof(steps, []int{0}, nil), api.ErrInvalid)
	}
}

// The most items, and lists that are much longer than any chain or plan.
func TestP15_2Longest(t *testing.T) {
	p, _ := certificate.Make(full(12))
	sameCheck(t, full(12), p, api.OK)
	// the last item comes strictly before the first ones
	last := cloneProof(p)
	last.Plan.Codes[maxWagons-1] = 1
	sameCheck(t, full(12), last, api.ErrOrder)
	last.Plan.Codes[0] = 30
	sameCheck(t, full(12), last, api.ErrOrder)
	zeros := make([]int, 1000000)
	sameCheck(t, full(12), proof(5, p.Plan.Codes, zeros), api.ErrInvalid)
	sameCheck(t, full(12), proof(5, p.Plan.Codes, append(down(maxBlocks), zeros...)), api.ErrInvalid)
	sameCheck(t, full(12), proof(5, zeros, p.Chain), api.ErrInvalid)
}

// All plans of few steps, fit or not, with all short lists, for all jobs with few items.
func TestP15_2AllProofs(t *testing.T) {
	seen := map[api.Errno]int{}
	for _, s := range []shape{{0, 1, 1, 1}, {1, 1, 1, 3}, {2, 2, 2, 2}, {3, 1, 3, 1}} {
		for _, weight := range []int{0, 1, 12} {
			eachJob(s, weight, func(j api.Job) {
				for steps := range 3 {
					eachList(s.items, 0, limitOf(steps), func(codes []int) {
						eachList(s.items, 0, s.items, func(chain []int) {
							p := proof(steps, codes, chain)
							e := checkOf(j, p)
							seen[e]++
							sameCheck(t, j, p, e)
						})
					})
				}
			})
		}
	}
	for _, e := range []api.Errno{api.OK, api.ErrInvalid, api.ErrOrder, api.ErrConflict} {
		if seen[e] < 200 {
			t.Errorf("error %d: only %d proofs", e, seen[e])
		}
	}
}

// Whatever Check accepts is a plan with the least steps: Run sorts the job, no plan with fewer steps sorts it, and Least has as many.
func TestP15_2Proves(t *testing.T) {
	proofs := 0
	for _, s := range []shape{{1, 1, 1, 3}, {2, 1, 2, 3}, {3, 1, 3, 2}, {3, 2, 2, 1}, {4, 1, 4, 1}} {
		for _, weight := range []int{0, 1, 12} {
			eachJob(s, weight, func(j api.Job) {
				var chains [][]int
				eachList(s.items, 0, s.items-1, func(l []int) {
					if _, e := boundOf(j, l); e == api.OK {
						chains = append(chains, slices.Clone(l))
					}
				})
				for steps := range 3 {
					eachPlan(j, steps, func(codes []int) {
						for _, chain := range chains {
							if p := proof(steps, codes, chain); certificate.Check(j, p) == api.OK {
								proofs++
								isProof(t, j, p)
							}
						}
					})
				}
			})
		}
	}
	if proofs < 4000 {
		t.Errorf("only %d proofs", proofs)
	}
}

// isProof checks what a proof proves.
func isProof(t *testing.T, j api.Job, p api.Proof) {
	t.Helper()
	sorted, _ := rollin.Run(j, p.Plan)
	if ok, e := job.Sorted(j, sorted.Trains); !ok || e != api.OK {
		t.Errorf("%+v does not sort %+v", p, j)
	}
	for steps := range p.Plan.Steps {
		eachPlan(j, steps, func(codes []int) { t.Errorf("%+v is not the shortest plan of %+v: %v", p, j, codes) })
	}
	if least, e := leastcode.Least(j); least.Steps != p.Plan.Steps || e != api.OK {
		t.Errorf("Least(%+v): %+v, error %d; the proof is %+v", j, least, e, p)
	}
}

// Proofs of random jobs, spoilt at one place.
func TestP15_2SpoiltProofs(t *testing.T) {
	r := random(2)
	seen := map[api.Errno]int{}
	for range 8000 {
		j := randomJob(r, shape{1 + r.IntN(24), 1 + r.IntN(3), 1 + r.IntN(12), 1 + r.IntN(4)}, 1+r.IntN(maxWeight))
		p, e := certificate.Make(j)
		if e != api.OK {
			continue
		}
		i, n := r.IntN(len(p.Plan.Codes)), r.IntN(len(p.Chain))
		switch r.IntN(8) {
		case 0:
			p.Plan.Codes[i] += 1 - 2*r.IntN(2)
		case 1:
			p.Plan.Codes[i] ^= 1 << r.IntN(4)
		case 2:
			p.Plan.Codes[i] = p.Plan.Codes[r.IntN(len(p.Plan.Codes))]
		case 3:
			p.Plan.Steps += r.IntN(3) - 1
		case 4:
			p.Chain = slices.Delete(p.Chain, n, n+1)
		case 5:
			p.Chain[n] = i
		case 6:
			p.Chain = slices.Insert(p.Chain, n, i)
		case 7:
			j.Items[i].Block = r.IntN(maxBlocks)
		}
		want := checkOf(j, p)
		seen[want]++
		sameCheck(t, j, p, want)
	}
	for _, e := range []api.Errno{api.OK, api.ErrInvalid, api.ErrOrder, api.ErrConflict} {
		if seen[e] < 300 {
			t.Errorf("error %d: only %d proofs", e, seen[e])
		}
	}
}

// P15.3

func TestP15_3Encode(t *testing.T) {
	for _, c := range []struct {
		p api.Proof
		b []byte
	}{
		{proof(2, []int{1, 2, 0, 1}, []int{2, 0, 3, 1}), []byte{2, 4, 0, 1, 0, 2, 0, 0, 0, 1, 4, 2, 0, 3, 1}},
		{api.Proof{}, []byte{0, 0, 0}},
		{proof(12, []int{}, []int{}), []byte{12, 0, 0}},
		{proof(1, []int{4095, 256, 255}, nil), []byte{1, 3, 15, 255, 1, 0, 0, 255, 0}},
		// what is encoded need not be a proof
		{proof(0, nil, []int{95, 95, 0}), []byte{0, 0, 3, 95, 95, 0}},
		{proof(0, []int{4095}, []int{7}), []byte{0, 1, 15, 255, 1, 7}},
	} {
		sameEncode(t, c.p, c.b, api.OK)
		sameDecode(t, c.b, c.p, api.OK)
	}
}

func TestP15_3AllCodes(t *testing.T) {
	for k := -2; k < codes+2; k++ {
		p := proof(12, []int{k}, nil)
		want, e := encodingOf(p)
		sameEncode(t, p, want, e)
	}
}

// Numbers at the ends of their ranges and of int, in each place.
func TestP15_3Ranges(t *testing.T) {
	for _, n := range []int{math.MinInt, -1 << 32, -256, -1, 0, 1, 12, 13, 95, 96, 97, 255, 256, 4095, 4096, 65535, 65536, 1 << 32, 1<<32 + 1, math.MaxInt} {
		for _, p := range []api.Proof{proof(n, []int{1, 2, 0, 1}, []int{2, 0, 3, 1}), proof(n, nil, nil)} {
			want, e := encodingOf(p)
			sameEncode(t, p, want, e)
		}
		for place := range 4 {
			for _, length := range []int{4, maxWagons} {
				p := proof(2, make([]int, length), make([]int, length))
				i := place * (length - 1) / 3
				p.Plan.Codes[i] = n
				want, e := encodingOf(p)
				sameEncode(t, p, want, e)
				p.Plan.Codes[i], p.Chain[i] = 3, n
				want, e = encodingOf(p)
				sameEncode(t, p, want, e)
			}
		}
	}
}

// The limits of both lists, and that they come before the ranges.
func TestP15_3Limits(t *testing.T) {
	for _, n := range []int{0, 1, maxWagons - 1, maxWagons, maxWagons + 1, 255, 256, 257, 256 + maxWagons, 1 << 16, 1000000} {
		for _, steps := range []int{0, 12, -1, 13} {
			for _, x := range []int{0, 95, 96, 4096, -1} {
				for _, p := range []api.Proof{
					proof(steps, slices.Repeat([]int{x}, n), nil), proof(steps, nil, slices.Repeat([]int{x}, n)),
					proof(steps, slices.Repeat([]int{x}, n), []int{x}), proof(steps, []int{x}, slices.Repeat([]int{x}, n)),
				} {
					want, e := encodingOf(p)
					if n > maxWagons && e != api.ErrLimit {
						t.Fatalf("%d elements: want error %d", n, e)
					}
					sameEncode(t, p, want, e)
				}
			}
		}
	}
}

func TestP15_3RandomProofs(t *testing.T) {
	r := random(3)
	for range 1000 {
		p := randomProof(r)
		b, _ := encodingOf(p)
		sameEncode(t, p, b, api.OK)
		sameDecode(t, b, p, api.OK)
	}
}

func TestP15_3NewMemory(t *testing.T) {
	p := proof(2, []int{1, 2, 0, 1}, []int{2, 0, 3, 1})
	first, _ := certificate.Encode(p)
	second, _ := certificate.Encode(p)
	want := bytes.Clone(first)
	clear(first[:cap(first)])
	if !bytes.Equal(second, want) {
		t.Errorf("Encode(%+v): %v has become %v", p, want, second)
	}
	sameEncode(t, p, want, api.OK)
}

// P15.4

func TestP15_4Decode(t *testing.T) {
	for _, c := range []struct {
		b []byte
		p api.Proof
		e api.Errno
	}{
		{[]byte{2, 4, 0, 1, 0, 2, 0, 0, 0, 1, 4, 2, 0, 3, 1}, proof(2, []int{1, 2, 0, 1}, []int{2, 0, 3, 1}), api.OK},
		{[]byte{0, 0, 0}, api.Proof{}, api.OK},
		{[]byte{12, 1, 15, 255, 1, 95}, proof(12, []int{4095}, []int{95}), api.OK},
		// the codes, or the chain, end early
		{nil, api.Proof{}, api.ErrTruncated},
		{[]byte{}, api.Proof{}, api.ErrTruncated},
		{[]byte{0}, api.Proof{}, api.ErrTruncated},
		{[]byte{0, 0}, api.Proof{}, api.ErrTruncated},
		{[]byte{0, 1, 0}, api.Proof{}, api.ErrTruncated},
		{[]byte{0, 1, 0, 0}, api.Proof{}, api.ErrTruncated},
		{[]byte{0, 0, 1}, api.Proof{}, api.ErrTruncated},
		{[]byte{0, 255}, api.Proof{}, api.ErrTruncated},
		{[]byte{0, 0, 255}, api.Proof{}, api.ErrTruncated},
		// bytes follow
		{[]byte{0, 0, 0, 0}, api.Proof{}, api.ErrForm},
		{[]byte{0, 1, 0, 0, 0, 0}, api.Proof{}, api.ErrForm},
		{[]byte{0, 0, 1, 0, 1}, api.Proof{}, api.ErrForm},
		// numbers that are out of their ranges
		{[]byte{13, 0, 0}, api.Proof{}, api.ErrRange},
		{[]byte{255, 0, 0}, api.Proof{}, api.ErrRange},
		{[]byte{0, 1, 16, 0, 0}, api.Proof{}, api.ErrRange},
		{[]byte{0, 1, 255, 255, 0}, api.Proof{}, api.ErrRange},
		{[]byte{0, 0, 1, 96}, api.Proof{}, api.ErrRange},
		{[]byte{0, 0, 1, 255}, api.Proof{}, api.ErrRange},
		// a later error beside an earlier one
		{[]byte{13}, api.Proof{}, api.ErrTruncated},
		{[]byte{13, 1, 16}, api.Proof{}, api.ErrTruncated},
		{[]byte{13, 0, 2, 96}, api.Proof{}, api.ErrTruncated},
		{[]byte{13, 0, 0, 0}, api.Proof{}, api.ErrForm},
		{[]byte{0, 1, 16, 0, 1, 96, 0}, api.Proof{}, api.ErrForm},
	} {
		sameDecode(t, c.b, c.p, c.e)
		want, e := decodingOf(c.b)
		sameDecode(t, c.b, want, e)
	}
}

// Lists above the limit are read before they are refused.
func TestP15_4Limits(t *testing.T) {
	for _, steps := range []byte{0, 13} {
		for n := maxWagons - 1; n <= 255; n++ {
			many := append([]byte{steps, byte(n)}, make([]byte, 2*n+1)...)
			chain := append([]byte{steps, 0, byte(n)}, make([]byte, n)...)
			for _, b := range [][]byte{many, chain} {
				want, e := decodingOf(b)
				if n > maxWagons && e != api.ErrLimit {
					t.Fatalf("%d elements: want error %d", n, e)
				}
				sameDecode(t, b, want, e)
				sameDecode(t, b[:len(b)-1], api.Proof{}, api.ErrTruncated)
				sameDecode(t, append(slices.Clone(b), 0), api.Proof{}, api.ErrForm)
			}
		}
	}
}

// All byte strings up to a length, of bytes that matter.
func TestP15_4ShortBytes(t *testing.T) {
	seen := map[api.Errno]int{}
	values := []byte{0, 1, 2, 12, 13, 15, 16, 95, 96, 255}
	var extend func(b []byte)
	extend = func(b []byte) {
		want, e := decodingOf(b)
		seen[e]++
		sameDecode(t, b, want, e)
		if len(b) == 5 {
			return
		}
		for _, c := range values {
			extend(append(slices.Clone(b), c))
		}
	}
	extend(nil)
	for _, e := range []api.Errno{api.OK, api.ErrTruncated, api.ErrForm, api.ErrRange} {
		if seen[e] < 20 {
			t.Errorf("error %d: only %d byte strings", e, seen[e])
		}
	}
}

// Encodings cut off at each place, with bytes behind them, and with each byte replaced by each other one.
func TestP15_4SpoiltBytes(t *testing.T) {
	r := random(4)
	long := append(make([]int, maxWagons-1), 4095)
	for _, p := range []api.Proof{{}, proof(2, []int{1, 2, 0, 1}, []int{2, 0, 3, 1}), proof(12, long, down(maxWagons)), randomProof(r), randomProof(r)} {
		b, _ := encodingOf(p)
		sameDecode(t, b, p, api.OK)
		for n := range b {
			sameDecode(t, b[:n], api.Proof{}, api.ErrTruncated)
			for c := range 256 {
				other := bytes.Clone(b)
				other[n] = byte(c)
				want, e := decodingOf(other)
				sameDecode(t, other, want, e)
			}
		}
		for _, n := range []int{1, 2, 255, 256, 1000000} {
			sameDecode(t, append(bytes.Clone(b), make([]byte, n)...), api.Proof{}, api.ErrForm)
		}
	}
}

// What is decoded is encoded as it was.
func TestP15_4RandomBytes(t *testing.T) {
	r := random(5)
	decoded := 0
	for range 20000 {
		b := []byte{byte(r.IntN(14)), byte(r.IntN(3))}
		for range int(b[1]) {
			b = append(b, byte(r.IntN(17)), byte(r.IntN(256)))
		}
		b = append(b, byte(r.IntN(3)))
		for range int(b[len(b)-1]) + r.IntN(20)/19 {
			b = append(b, byte(r.IntN(100)))
		}
		want, e := decodingOf(b)
		sameDecode(t, b, want, e)
		if e == api.OK {
			decoded++
			sameEncode(t, want, b, api.OK)
		}
	}
	if decoded < 5000 {
		t.Errorf("only %d proofs", decoded)
	}
}

// Neither the bytes, nor another proof, nor the other list changes when a proof is written over.
func TestP15_4NewMemory(t *testing.T) {
	want := proof(2, []int{1, 2, 0, 1}, []int{2, 0, 3, 1})
	b, _ := encodingOf(want)
	before := bytes.Clone(b)
	first, _ := certificate.Decode(b)
	second, _ := certificate.Decode(b)
	overwrite(first.Plan.Codes)
	if !slices.Equal(first.Chain, want.Chain) {
		t.Errorf("Decode(%v): the chain shares memory with the codes", b)
	}
	overwrite(first.Chain)
	if !bytes.Equal(b, before) {
		t.Errorf("Decode(%v) shares memory with its argument", before)
	}
	clear(b)
	if !isSame(second, want) {
		t.Errorf("Decode(%v): %+v has become %+v", before, want, second)
	}
	sameDecode(t, before, want, api.OK)
}

// Random proofs that Make makes go through their encoding.
func TestP15Whole(t *testing.T) {
	r := random(6)
	for n := range 200 {
		j := randomJob(r, shape{n % (maxWagons + 1), 1 + r.IntN(3), 1 + r.IntN(12), 1 + r.IntN(3)}, 12)
		p, e := certificate.Make(j)
		if e != api.OK {
			continue
		}
		b, e := certificate.Encode(p)
		if e != api.OK {
			t.Errorf("Encode(%+v): error %d", p, e)
		}
		sameDecode(t, b, p, api.OK)
		q, _ := certificate.Decode(b)
		sameCheck(t, j, q, api.OK)
	}
}
