package assign_test

import (
	"math"
	"slices"
	"testing"

	"humpyard/api"
	"humpyard/assign"
)

// stays checks that the arguments of a call have stayed as they were.
func stays(t *testing.T, call string, l, before [][]int) {
	t.Helper()
	for n := range l {
		if !slices.Equal(l[n], before[n]) {
			t.Errorf("%s has changed %v to %v", call, before[n], l[n])
		}
	}
}

// cloned returns copies of some lists.
func cloned(l ...[]int) [][]int {
	var copies [][]int
	for _, x := range l {
		copies = append(copies, slices.Clone(x))
	}
	return copies
}

func sameMatch(t *testing.T, loads, tracks, want, wantRefusal []int, wantError api.Errno) {
	t.Helper()
	before := cloned(loads, tracks)
	l, refusal, e := assign.Match(loads, tracks)
	if !slices.Equal(l, want) || !slices.Equal(refusal, wantRefusal) || e != wantError {
		t.Errorf("Match(%v, %v): %v, %v, error %d; want %v, %v, error %d", loads, tracks, l, refusal, e, want, wantRefusal, wantError)
	}
	stays(t, "Match", [][]int{loads, tracks}, before)
}

func sameFits(t *testing.T, loads, tracks, l []int, want bool) {
	t.Helper()
	before := cloned(loads, tracks, l)
	if fits := assign.Fits(loads, tracks, l); fits != want {
		t.Errorf("Fits(%v, %v, %v): %t; want %t", loads, tracks, l, fits, want)
	}
	stays(t, "Fits", [][]int{loads, tracks, l}, before)
}

func sameRefuses(t *testing.T, loads, tracks, refusal []int, want bool) {
	t.Helper()
	before := cloned(loads, tracks, refusal)
	if refuses := assign.Refuses(loads, tracks, refusal); refuses != want {
		t.Errorf("Refuses(%v, %v, %v): %t; want %t", loads, tracks, refusal, refuses, want)
	}
	stays(t, "Refuses", [][]int{loads, tracks, refusal}, before)
}

// agrees checks Match against the definitions, and what it returns against Fits and Refuses.
func agrees(t *testing.T, loads, tracks []int) api.Errno {
	t.Helper()
	l, refusal, e := matchOf(loads, tracks)
	sameMatch(t, loads, tracks, l, refusal, e)
	sameFits(t, loads, tracks, l, e == api.OK)
	sameRefuses(t, loads, tracks, refusal, e == api.ErrRoom)
	return e
}

// to returns the numbers from 0 up to, but not including, n.
func to(n int) []int {
	var l []int
	for i := range n {
		l = append(l, i)
	}
	return l
}

// of returns n equal numbers.
func of(n, x int) []int { return slices.Repeat([]int{x}, n) }

// wrong is a pair of lists that are not valid.
type wrong struct {
	loads, tracks []int
	e             api.Errno
}

func wrongLists() []wrong {
	l := []wrong{
		{make([]int, maxTracks+1), nil, api.ErrLimit},
		{nil, of(maxTracks+1, 1), api.ErrLimit},
		{make([]int, 5000), of(5000, 1), api.ErrLimit},
		// too many elements come before elements that are not in their range, in whichever list
		{of(maxTracks+1, -1), []int{1}, api.ErrLimit},
		{[]int{-1}, of(maxTracks+1, 1), api.ErrLimit},
		{make([]int, maxTracks+1), []int{0}, api.ErrLimit},
		{[]int{1}, make([]int, maxTracks+1), api.ErrLimit},
		// an element that is not in its range comes before loads without a track
		{[]int{5, 5, -1}, []int{4}, api.ErrRange},
		{[]int{5, 5}, []int{4, 0}, api.ErrRange},
	}
	for _, n := range []int{-1, -2, longest + 1, math.MinInt, math.MaxInt} {
		l = append(l,
			wrong{[]int{n}, []int{1}, api.ErrRange},
			wrong{[]int{0, 0, n}, []int{longest, longest, longest}, api.ErrRange},
			wrong{append(of(maxTracks-1, 1), n), of(maxTracks, longest), api.ErrRange},
			wrong{[]int{1}, []int{n}, api.ErrRange},
			wrong{nil, []int{1, n}, api.ErrRange},
			wrong{of(maxTracks, 1), append(of(maxTracks-1, 1), n), api.ErrRange})
	}
	return append(l, wrong{nil, []int{0}, api.ErrRange}, wrong{[]int{1}, []int{1, 0}, api.ErrRange})
}

// P16.1

func TestP16_1Match(t *testing.T) {
	for _, c := range []struct{ loads, tracks, l []int }{
		{[]int{5, 9, 0}, []int{10, 6, 9}, []int{1, 2, -1}},
		{nil, nil, nil},
		{nil, []int{3}, nil},
		{[]int{0}, nil, []int{-1}},
		{[]int{0, 0}, []int{1}, []int{-1, -1}},
		{[]int{7}, []int{7}, []int{0}},
		{[]int{7}, []int{6, 8}, []int{1}},
		// the shortest track that is long enough, wherever it is
		{[]int{5}, []int{9, 7, 5, 6, 4}, []int{2}},
		{[]int{5}, []int{4, 6, 7, 9}, []int{1}},
		{[]int{5}, []int{9, 7, 6, 4}, []int{2}},
		// equal tracks by their indexes
		{[]int{5}, []int{9, 6, 6, 6}, []int{1}},
		{[]int{5, 5, 5}, []int{6, 9, 6, 6}, []int{0, 2, 3}},
		// equal loads by their indexes
		{[]int{5, 5, 5}, []int{9, 7, 8}, []int{1, 2, 0}},
		{[]int{5, 0, 5}, []int{9, 7}, []int{1, -1, 0}},
		// the greatest load is treated first
		{[]int{1, 2, 3}, []int{3, 3, 3}, []int{2, 1, 0}},
		{[]int{1, 3, 2}, []int{9, 3, 3}, []int{0, 1, 2}},
		{[]int{3, 8}, []int{8, 9}, []int{1, 0}},
		{[]int{3, 8}, []int{10, 9}, []int{0, 1}},
		// more tracks than loads
		{[]int{4, 2}, []int{1, 1, 2, 3, 3, 4}, []int{5, 2}},
	} {
		sameMatch(t, c.loads, c.tracks, c.l, nil, api.OK)
		agrees(t, c.loads, c.tracks)
	}
}

func TestP16_1Refusals(t *testing.T) {
	for _, c := range []struct{ loads, tracks, refusal []int }{
		{[]int{7, 8}, []int{9, 6}, []int{0, 1}},
		{[]int{1}, nil, []int{0}},
		{[]int{0, 0, 1}, nil, []int{2}},
		// the loads that are treated afterwards are not in the refusal
		{[]int{5, 9, 5}, []int{8, 8, 8}, []int{1}},
		{[]int{5, 9, 4}, []int{9}, []int{0, 1}},
		{[]int{5, 5, 5}, []int{5}, []int{0, 1}},
		{[]int{5, 5, 5}, []int{5, 6}, []int{0, 1, 2}},
		// those that got a track, and are treated before it, are
		{[]int{6, 7, 8, 9, 5}, []int{9, 9, 9, 4}, []int{0, 1, 2, 3}},
		{[]int{6, 7, 8, 9, 5}, []int{9, 9, 9, 6}, []int{0, 1, 2, 3, 4}},
		// the indexes ascend, although the loads do not fall
		{[]int{1, 0, 2, 3}, []int{5, 5}, []int{0, 2, 3}},
		{[]int{3, 0, 9, 3, 1}, []int{9, 3, 2}, []int{0, 2, 3}},
		// a track that is too short by 1
		{[]int{longest}, of(maxTracks, longest-1), []int{0}},
	} {
		sameMatch(t, c.loads, c.tracks, nil, c.refusal, api.ErrRoom)
		agrees(t, c.loads, c.tracks)
	}
}

func TestP16_1Limits(t *testing.T) {
	for _, c := range []struct{ loads, tracks []int }{
		{of(maxTracks, longest), of(maxTracks, longest)},
		{of(maxTracks, 1), of(maxTracks, 1)},
		{of(maxTracks, 0), of(maxTracks, 1)},
		{of(maxTracks, 0), nil},
		{nil, of(maxTracks, longest)},
		{of(maxTracks, 1), of(maxTracks-1, 1)},
		{of(maxTracks, longest), of(maxTracks-1, longest)},
		{append(of(maxTracks-1, 1), longest), append([]int{longest}, of(maxTracks-1, 1)...)},
	} {
		agrees(t, c.loads, c.tracks)
	}
	sameMatch(t, of(maxTracks, longest), of(maxTracks, longest), to(maxTracks), nil, api.OK)
	sameMatch(t, of(maxTracks, longest), of(maxTracks-1, longest), nil, to(maxTracks), api.ErrRoom)
	sameMatch(t, of(maxTracks, 0), nil, of(maxTracks, -1), nil, api.OK)
	// every load and every track of one list
	up, down := to(maxTracks + 1)[1:], to(maxTracks)
	for i := range down {
		down[i] = maxTracks - i
	}
	sameMatch(t, up, up, to(maxTracks), nil, api.OK)
	agrees(t, up, down)
	agrees(t, down, up)
}

func TestP16_1Errors(t *testing.T) {
	for _, c := range wrongLists() {
		sameMatch(t, c.loads, c.tracks, nil, nil, c.e)
		agrees(t, c.loads, c.tracks)
	}
}

// All short lists: Match does what P16.1 says, and it finds an assignment exactly if there is one, and a refusal exactly if there is one.
func TestP16_1SmallLists(t *testing.T) {
	eachYard(4, 3, 3, func(loads, tracks []int) {
		e := agrees(t, loads, tracks)
		if has := hasAssignment(loads, tracks); has != (e == api.OK) {
			t.Errorf("Match(%v, %v): error %d, but an assignment: %t", loads, tracks, e, has)
		}
		if has := hasRefusal(loads, tracks); has != (e == api.ErrRoom) {
			t.Errorf("Match(%v, %v): error %d, but a refusal: %t", loads, tracks, e, has)
		}
	})
	eachYard(2, 5, 4, func(loads, tracks []int) { agrees(t, loads, tracks) })
	eachYard(5, 2, 4, func(loads, tracks []int) { agrees(t, loads, tracks) })
}

func TestP16_1RandomLists(t *testing.T) {
	r := random(1)
	counts := map[api.Errno]int{}
	for range 4000 {
		loads, tracks := randomYard(r)
		counts[agrees(t, loads, tracks)]++
	}
	if counts[api.OK] < 1000 || counts[api.ErrRoom] < 1000 {
		t.Errorf("%v", counts)
	}
}

// Lists with one element that is not valid, or with too many of them.
func TestP16_1SpoiltLists(t *testing.T) {
	r := random(2)
	counts := map[api.Errno]int{}
	for range 2000 {
		loads, tracks := randomYard(r)
		lists := []*[]int{&loads, &tracks}
		n := r.IntN(2)
		switch l := lists[n]; {
		case len(*l) > 0 && r.IntN(3) > 0:
			(*l)[r.IntN(len(*l))] = []int{-n, -1, longest, longest + 1, math.MinInt, math.MaxInt}[r.IntN(6)]
		default:
			*l = append(*l, of(maxTracks-r.IntN(2), 1)...)
		}
		counts[agrees(t, loads, tracks)]++
	}
	if len(counts) != 4 || counts[api.ErrRange] < 300 || counts[api.ErrLimit] < 300 {
		t.Errorf("%v", counts)
	}
}

// Writing into a result, up to its capacity, changes neither another result nor an argument.
func TestP16_1NewMemory(t *testing.T) {
	for _, c := range [][2][]int{
		{{5, 9, 0}, {10, 6, 9}}, {{7, 8}, {9, 6}}, {{1, 2, 3, 4}, {4}}, {of(maxTracks, 0), nil}, {to(maxTracks), of(9, longest)},
	} {
		loads, tracks := c[0], c[1]
		before := cloned(loads, tracks)
		l, refusal, e := assign.Match(loads, tracks)
		secondL, secondRefusal, _ := assign.Match(loads, tracks)
		want := cloned(l, refusal)
		overwrite(l)
		overwrite(refusal)
		stays(t, "writing", [][]int{loads, tracks, secondL, secondRefusal}, append(before, want...))
		sameMatch(t, loads, tracks, want[0], want[1], e)
	}
}

// overwrite writes over a list up to its capacity.
func overwrite(l []int) {
	for i := range l[:cap(l)] {
		l[:cap(l)][i] = -77
	}
}

// P16.2

func TestP16_2Fits(t *testing.T) {
	loads, tracks := []int{5, 9, 0}, []int{10, 6, 9}
	for _, c := range []struct {
		l    []int
		want bool
	}{
		{[]int{1, 2, -1}, true},
		// assignments that Match does not return
		{[]int{1, 0, -1}, true},
		{[]int{2, 0, -1}, true},
		{[]int{0, 2, -1}, true},
		// a track that is too short
		{[]int{0, 1, -1}, false},
		{[]int{2, 1, -1}, false},
		// a track twice
		{[]int{0, 0, -1}, false},
		{[]int{2, 2, -1}, false},
		// no track for a load, or another number than -1
		{[]int{-1, 2, -1}, false},
		{[]int{1, -1, -1}, false},
		{[]int{-1, -1, -1}, false},
		{[]int{1, -2, -1}, false},
		{[]int{1, 3, -1}, false},
		{[]int{1, math.MaxInt, -1}, false},
		{[]int{math.MinInt, 2, -1}, false},
		// a track for a load of 0, whether it is taken or not, or another number than -1
		{[]int{1, 2, 0}, false},
		{[]int{1, 2, 2}, false},
		{[]int{1, 2, 3}, false},
		{[]int{1, 2, -2}, false},
		{[]int{1, 2, math.MinInt}, false},
		{[]int{1, 2, math.MaxInt}, false},
		// another number of elements
		{[]int{1, 2}, false},
		{[]int{1, 2, -1, -1}, false},
		{[]int{1, 2, -1, 0}, false},
		{nil, false},
		{of(5000, -1), false},
	} {
		sameFits(t, loads, tracks, c.l, c.want)
	}
	sameFits(t, nil, nil, nil, true)
	sameFits(t, []int{}, []int{3}, []int{}, true)
	sameFits(t, nil, []int{3}, []int{0}, false)
	sameFits(t, nil, nil, []int{-1}, false)
	sameFits(t, []int{0, 0}, nil, []int{-1, -1}, true)
	sameFits(t, []int{1}, nil, []int{-1}, false)
	sameFits(t, []int{1}, nil, []int{0}, false)
}

func TestP16_2Refuses(t *testing.T) {
	loads, tracks := []int{7, 8, 0, 3}, []int{9, 6}
	for _, c := range []struct {
		refusal []int
		want    bool
	}{
		{[]int{0, 1}, true},
		// a refusal that Match does not return
		{[]int{0, 1, 3}, true},
		// as many tracks as loads, or more
		{[]int{0}, false},
		{[]int{1}, false},
		{[]int{3}, false},
		{[]int{0, 3}, false},
		{[]int{1, 3}, false},
		// not ascending
		{[]int{1, 0}, false},
		{[]int{0, 0}, false},
		{[]int{1, 1}, false},
		{[]int{0, 1, 1}, false},
		{[]int{0, 3, 1}, false},
		{[]int{3, 0, 1}, false},
		// a load of 0
		{[]int{2}, false},
		{[]int{0, 1, 2}, false},
		{[]int{0, 1, 2, 3}, false},
		// no load
		{[]int{0, 1, 4}, false},
		{[]int{-1, 0, 1}, false},
		{[]int{0, 1, math.MaxInt}, false},
		{[]int{math.MinInt, 0, 1}, false},
		{nil, false},
		{to(5000), false},
	} {
		sameRefuses(t, loads, tracks, c.refusal, c.want)
	}
	sameRefuses(t, nil, nil, nil, false)
	sameRefuses(t, []int{}, []int{}, []int{}, false)
	sameRefuses(t, nil, nil, []int{0}, false)
	sameRefuses(t, []int{5}, nil, nil, false)
	sameRefuses(t, []int{5}, nil, []int{0}, true)
	sameRefuses(t, []int{0}, nil, []int{0}, false)
	// a track that is as long as the load, and one that is too short by 1
	sameRefuses(t, []int{5}, []int{5}, []int{0}, false)
	sameRefuses(t, []int{5}, []int{4}, []int{0}, true)
	sameRefuses(t, []int{longest}, []int{longest}, []int{0}, false)
	sameRefuses(t, []int{longest}, []int{longest - 1}, []int{0}, true)
	// the least of the loads counts, wherever it is
	for _, loads := range [][]int{{4, 9, 9}, {9, 4, 9}, {9, 9, 4}} {
		sameRefuses(t, loads, []int{5, 9, 9}, to(3), false)
		sameRefuses(t, loads, []int{3, 9, 9}, to(3), true)
	}
	// as many loads as possible
	sameRefuses(t, of(maxTracks, 2), of(maxTracks, 2), to(maxTracks), false)
	sameRefuses(t, of(maxTracks, 2), append(of(maxTracks-1, 2), 1), to(maxTracks), true)
}

// The lists that are not valid have neither an assignment nor a refusal.
func TestP16_2WrongLists(t *testing.T) {
	for _, c := range wrongLists() {
		assigned := of(len(c.loads), -1)
		y := 0
		var refusal []int
		for x, load := range c.loads {
			if load != 0 {
				assigned[x] = y
				y++
				refusal = append(refusal, x)
			}
		}
		for _, l := range [][]int{assigned, refusal, to(len(c.loads)), of(len(c.loads), -1), {0}, nil} {
			sameFits(t, c.loads, c.tracks, l, false)
			sameRefuses(t, c.loads, c.tracks, l, false)
		}
	}
	// the same lists with one element less, or with a number that is in its range, have one
	sameFits(t, make([]int, maxTracks), nil, of(maxTracks, -1), true)
	sameFits(t, make([]int, maxTracks+1), nil, of(maxTracks+1, -1), false)
	sameFits(t, nil, of(maxTracks, 1), nil, true)
	sameFits(t, nil, of(maxTracks+1, 1), nil, false)
	sameRefuses(t, of(maxTracks, 1), nil, []int{0}, true)
	sameRefuses(t, of(maxTracks+1, 1), nil, []int{0}, false)
	sameRefuses(t, []int{2}, of(maxTracks, 1), []int{0}, true)
	sameRefuses(t, []int{2}, of(maxTracks+1, 1), []int{0}, false)
	sameRefuses(t, []int{longest}, []int{1}, []int{0}, true)
	sameRefuses(t, []int{longest + 1}, []int{1}, []int{0}, false)
	sameRefuses(t, []int{1}, []int{0}, []int{0}, false)
	sameRefuses(t, []int{1, -1}, nil, []int{0}, false)
	sameFits(t, []int{0, -1}, []int{1, 1}, []int{-1, 0}, false)
	sameFits(t, []int{1}, []int{longest}, []int{0}, true)
	sameFits(t, []int{1}, []int{longest + 1}, []int{0}, false)
	sameFits(t, []int{1}, []int{1, 0}, []int{0}, false)
}

// All short lists, with all short lists of numbers that are indexes or nearly so.
func TestP16_2SmallLists(t *testing.T) {
	fit, refused := 0, 0
	eachYard(3, 2, 2, func(loads, tracks []int) {
		eachList(4, -2, 3, func(l []int) {
			fits, refuses := isAssignment(loads, tracks, l), isRefusal(loads, tracks, l)
			sameFits(t, loads, tracks, l, fits)
			sameRefuses(t, loads, tracks, l, refuses)
			if fits {
				fit++
			}
			if refuses {
				refused++
			}
		})
	})
	if fit < 100 || refused < 100 {
		t.Errorf("%d assignments, %d refusals", fit, refused)
	}
}

// What Match returns for random lists, with one element replaced, left out, doubled, or exchanged with another one.
func TestP16_2SpoiltResults(t *testing.T) {
	r := random(3)
	counts := map[[2]bool]int{}
	for range 4000 {
		loads, tracks := randomYard(r)
		l, refusal, e := assign.Match(loads, tracks)
		isRoom := e == api.ErrRoom
		if isRoom {
			l = refusal
		}
		if len(l) == 0 {
			continue
		}
		n := r.IntN(len(l))
		switch r.IntN(4) {
		case 0:
			l[n] = r.IntN(maxTracks+3) - 2
		case 1:
			l = slices.Delete(l, n, n+1)
		case 2:
			l = slices.Insert(l, n, l[n])
		default:
			m := r.IntN(len(l))
			l[n], l[m] = l[m], l[n]
		}
		sameFits(t, loads, tracks, l, isAssignment(loads, tracks, l))
		sameRefuses(t, loads, tracks, l, isRefusal(loads, tracks, l))
		counts[[2]bool{isRoom, assign.Fits(loads, tracks, l) || assign.Refuses(loads, tracks, l)}]++
	}
	if len(counts) != 4 {
		t.Errorf("%v", counts)
	}
	for kind, count := range counts {
		if count < 50 {
			t.Errorf("only %d of %v", count, kind)
		}
	}
}
