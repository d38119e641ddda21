package wheel_test

import (
	"slices"
	"testing"

	"humpyard/api"
	"humpyard/wheel"
)

// P7.3

func sameRecognize(t *testing.T, d []int, patterns [][]int, tolerance int, want recognized) {
	t.Helper()
	train, copies := slices.Clone(d), make([][]int, len(patterns))
	for i, p := range patterns {
		copies[i] = slices.Clone(p)
	}
	l, cost, e := wheel.Recognize(d, patterns, tolerance)
	if !slices.Equal(l, want.list) || cost != want.cost || e != want.e {
		t.Errorf("Recognize of %d distances, %v, %v, %d: %v, cost %d, error %d; want %v, cost %d, error %d", len(d), d[:min(len(d), 12)], patterns[:min(len(patterns), 16)], tolerance, l[:min(len(l), 12)], cost, e, want.list[:min(len(want.list), 12)], want.cost, want.e)
	}
	if !slices.Equal(d, train) || !slices.EqualFunc(patterns, copies, func(p, q []int) bool { return slices.Equal(p, q) }) {
		t.Errorf("Recognize has changed its %d distances or %d patterns", len(d), len(patterns))
	}
}

func TestP7_3Recognize(t *testing.T) {
	for _, c := range []struct {
		d         []int
		patterns  [][]int
		tolerance int
		list      []int
		cost      int
	}{
		{[]int{180, 900, 180}, [][]int{{180}, {180, 900, 180}}, 0, []int{0, 0}, 0},
		{[]int{180, 900, 180}, [][]int{{180, 900, 180}, {180}}, 0, []int{0}, 0},
		{[]int{180, 900, 181}, [][]int{{180}, {180, 900, 181}}, 1, []int{1}, 0},
		// the least cost goes before the order of the lists, and before the number of wagons
		{[]int{5, 5, 5}, [][]int{{5, 5, 6}, {5}}, 9, []int{1, 1}, 0},
		{[]int{5, 5, 5}, [][]int{{5, 6, 5}, {4}}, 9, []int{0}, 1},
		{[]int{5, 5, 5}, [][]int{{4}, {5, 6, 5}}, 9, []int{1}, 1},
		{[]int{5, 5, 5}, [][]int{{4}, {5, 7, 5}}, 9, []int{0, 0}, 2},
		{[]int{5, 5, 5}, [][]int{{5, 7, 5}, {4}}, 9, []int{0}, 2},
		{[]int{9, 9, 9, 9}, [][]int{{9, 9}, {8}, {1, 1}}, 8, []int{0, 1}, 1},
		{[]int{9, 9, 9, 9}, [][]int{{8}, {9, 9}, {1, 1}}, 8, []int{0, 1}, 1},
		{[]int{9, 1, 9, 3}, [][]int{{9}, {9, 1}, {2, 9}, {9, 1, 9, 5}}, 9, []int{0, 1}, 2},
		{[]int{9, 1, 9, 3}, [][]int{{9, 1, 9, 5}, {9, 1}, {2, 9}, {9}}, 9, []int{0}, 2},
		// a cheaper first wagon leads to a dearer train
		{[]int{9, 1, 9, 3}, [][]int{{9}, {9, 1, 9, 5}, {6, 2}}, 9, []int{1}, 2},
		// a wagon that fits leads to no division
		{[]int{9, 1, 9, 3}, [][]int{{9}, {9, 1}, {4}}, 1, []int{1, 2}, 1},
		// patterns that are there twice
		{[]int{9, 9}, [][]int{{9}, {9}, nil}, 0, []int{0, 2}, 0},
		{[]int{9, 9, 9}, [][]int{{9, 9, 8}, {9, 9, 9}, {9, 9, 9}}, 1, []int{1}, 0},
		// all axles are alone
		{nil, [][]int{{}}, 0, []int{0}, 0},
		{nil, [][]int{{5}, nil}, 0, []int{1}, 0},
		{nil, [][]int{nil, nil, {5}}, 10000, []int{0}, 0},
		{[]int{7}, [][]int{nil}, 0, []int{0, 0}, 0},
		{[]int{7}, [][]int{{9}, nil}, 2, []int{1, 1}, 0},
		{[]int{7, 7, 7}, [][]int{nil}, 10000, []int{0, 0, 0, 0}, 0},
		// the tolerance, and the distances from one wagon to the next one
		{[]int{179}, [][]int{{180}}, 1, []int{0}, 1}, {[]int{181}, [][]int{{180}}, 1, []int{0}, 1}, {[]int{170}, [][]int{{180}}, 10, []int{0}, 10},
		{[]int{181, 10000, 179, 1, 180}, [][]int{{180}}, 1, []int{0, 0, 0}, 2},
		{[]int{100, 200, 300, 400, 500}, [][]int{{90, 210, 290, 410, 490}}, 10, []int{0}, 50},
		{[]int{1, 10000}, [][]int{{10000, 1}}, 10000, []int{0}, 19998}, {[]int{1, 10000}, [][]int{{10000, 1}}, 9999, []int{0}, 19998},
	} {
		sameRecognize(t, c.d, c.patterns, c.tolerance, recognized{c.list, c.cost, api.OK})
	}
}

func TestP7_3RecognizeNone(t *testing.T) {
	for _, c := range []struct {
		d         []int
		patterns  [][]int
		tolerance int
	}{
		{nil, nil, 0}, {[]int{7}, nil, 10000}, {nil, [][]int{{5}}, 10000}, {nil, [][]int{{1, 1, 1, 1, 1}, {1}}, 0},
		{[]int{181}, [][]int{{180}}, 0}, {[]int{179}, [][]int{{180}}, 0}, {[]int{182}, [][]int{{180}}, 1}, {[]int{178}, [][]int{{180}}, 1},
		{[]int{1, 10000}, [][]int{{10000, 1}}, 9998},
		// two and five axles for three, four and six for seven
		{[]int{5, 5}, [][]int{{5}, {5, 5, 5, 5}}, 10000}, {[]int{5, 5, 5, 5, 5, 5}, [][]int{{5, 5, 5}, {5, 5, 5, 5, 5}}, 10000},
		// only the first wagon, or only the last one, does not fit
		{[]int{9, 1, 5}, [][]int{{5}}, 3}, {[]int{5, 1, 9}, [][]int{{5}}, 3},
		// each difference counts, not their sum
		{[]int{5, 5, 9}, [][]int{{5, 5, 5}}, 3},
	} {
		sameRecognize(t, c.d, c.patterns, c.tolerance, recognized{e: api.ErrNone})
	}
}

// All trains of up to four distances from 1 to 3, with many sets of patterns.
func TestP7_3RecognizeDefinition(t *testing.T) {
	some := [][]int{nil, {1}, {2}, {3, 1}, {1, 2}, {2, 2, 2}, {1, 2, 3}, {3, 3, 1, 2}}
	for a := range some {
		for b := range some {
			for c := range some {
				patterns := [][]int{some[a], some[b], some[c]}
				for n := range 5 {
					eachTrain(n, func(d []int) {
						for tolerance := range 3 {
							sameRecognize(t, d, patterns, tolerance, recognizeAll(d, patterns, tolerance))
						}
					})
				}
			}
		}
	}
}

// eachTrain calls visit for each list of n distances from 1 to 3.
func eachTrain(n int, visit func([]int)) {
	d := slices.Repeat([]int{1}, n)
	for {
		visit(d)
		i := 0
		for i < n && d[i] == 3 {
			d[i] = 1
			i++
		}
		if i == n {
			return
		}
		d[i]++
	}
}

// Short trains with random patterns, and the two definitions compared with each other.
func TestP7_3RecognizeShort(t *testing.T) {
	r := random(6)
	divided := 0
	for range 20000 {
		size := []int{2, 5, 100, 10000}[r.IntN(4)]
		patterns := randomPatterns(r, 4, size)
		d := randomDistances(r, r.IntN(9), size)
		tolerance := []int{0, 1, size / 2, 10000}[r.IntN(4)]
		if len(patterns) > 0 && r.IntN(3) > 0 {
			d = drawn(r, patterns, 8, min(tolerance, size/4))
		}
		want := recognizeAll(d, patterns, tolerance)
		if other := recognizeForward(d, patterns, tolerance); !slices.Equal(other.list, want.list) || other.cost != want.cost || other.e != want.e {
			t.Fatalf("the definitions differ for %v, %v, %d: %v and %v", d, patterns, tolerance, other, want)
		}
		sameRecognize(t, d, patterns, tolerance, want)
		if want.e == api.OK {
			divided++
		}
	}
	if divided < 5000 || divided > 19000 {
		t.Errorf("%d of 20000 trains have a division", divided)
	}
}

// Long trains with up to 16 patterns of up to 5 distances.
func TestP7_3RecognizeLong(t *testing.T) {
	r := random(7)
	for range 300 {
		size := []int{2, 5, 100, 10000}[r.IntN(4)]
		patterns := append(randomPatterns(r, 15, size), randomDistances(r, r.IntN(6), size))
		tolerance := []int{0, 1, size / 2, 10000}[r.IntN(4)]
		d := drawn(r, patterns, 5+r.IntN(764), tolerance)
		want := recognizeForward(d, patterns, tolerance)
		if want.e != api.OK {
			t.Fatalf("a train that was drawn with the patterns has no division")
		}
		sameRecognize(t, d, patterns, tolerance, want)
	}
}

// Trains that are announced are recognized without cost (the consequences of chapter 7), and a greater tolerance costs no more.
func TestP7_3RecognizeDistances(t *testing.T) {
	r := random(8)
	for range 100 {
		kinds := randomTrain(r, 1+r.IntN(16))
		var patterns [][]int
		for _, w := range kinds {
			axles, _ := wheel.Offsets(w)
			patterns = append(patterns, patternOf(axles))
		}
		var l []api.Wagon
		for range r.IntN(96) + 1 {
			l = append(l, kinds[r.IntN(len(kinds))])
		}
		d, _ := wheel.Distances(l)
		for _, tolerance := range []int{0, 1, 20, 400, 10000} {
			list, cost, e := wheel.Recognize(d, patterns, tolerance)
			if n, ok := costOf(d, patterns, tolerance, list); cost != 0 || n != 0 || !ok || e != api.OK {
				t.Errorf("%d wagons, tolerance %d: cost %d, error %d, %v", len(l), tolerance, cost, e, list)
			}
		}
		for i := range d {
			d[i] = max(d[i]+r.IntN(41)-20, 1)
		}
		costs := []int{}
		for _, tolerance := range []int{20, 21, 50, 400, 3000, 10000} {
			_, cost, e := wheel.Recognize(d, patterns, tolerance)
			if e != api.OK {
				t.Errorf("%d wagons, tolerance %d: error %d", len(l), tolerance, e)
			}
			costs = append(costs, -cost)
		}
		if !slices.IsSorted(costs) {
			t.Errorf("the costs of %d wagons, times -1, by tolerance: %v", len(l), costs)
		}
	}
}

func TestP7_3RecognizeLimit(t *testing.T) {
	long := slices.Repeat([]int{100}, 768)
	sameRecognize(t, long, [][]int{{100, 101}, {100}, nil}, 1, recognized{append(slices.Repeat([]int{1}, 384), 2), 0, api.OK})
	sameRecognize(t, long, [][]int{nil}, 0, recognized{make([]int, 769), 0, api.OK})
	sameRecognize(t, long[1:], [][]int{{100, 100, 100, 100, 100}, {99}}, 1, recognized{make([]int, 128), 0, api.OK})
	sixteen := slices.Repeat([][]int{{99, 100, 100, 100, 100}}, 16)
	sixteen[15] = []int{100, 100, 100, 100, 100}
	sameRecognize(t, long[:767], sixteen, 5, recognized{slices.Repeat([]int{15}, 128), 0, api.OK})
	sameRecognize(t, slices.Repeat([]int{10000}, 767), [][]int{{1, 1, 1, 1, 1}}, 9999, recognized{make([]int, 128), 128 * 5 * 9999, api.OK})

	limit := recognized{e: api.ErrLimit}
	for _, n := range []int{769, 770, 1536, 100000} {
		d := slices.Repeat([]int{100}, n)
		sameRecognize(t, d, [][]int{{100}, nil}, 0, limit)
		sameRecognize(t, d, nil, 0, limit)
		sameRecognize(t, d, [][]int{{0}}, -1, limit)
		sameRecognize(t, make([]int, n), nil, 10001, limit)
	}
	for _, n := range []int{17, 18, 256, 272, 100000} {
		sameRecognize(t, []int{100}, slices.Repeat([][]int{{100}}, n), 0, limit)
		sameRecognize(t, []int{0}, make([][]int, n), -1, limit)
	}
	for _, n := range []int{6, 7, 256, 261, 100000} {
		p := slices.Repeat([]int{100}, n)
		for i := range 16 {
			patterns := slices.Repeat([][]int{{100}}, 16)
			patterns[i] = p
			sameRecognize(t, []int{100}, patterns, 0, limit)
			// before the ranges of all parts
			sameRecognize(t, []int{0}, patterns, 0, limit)
			sameRecognize(t, []int{100}, patterns, 10001, limit)
			patterns[15-i] = []int{0}
			if i != 15-i {
				sameRecognize(t, []int{100}, patterns, 0, limit)
			}
		}
		sameRecognize(t, nil, [][]int{make([]int, n)}, 0, limit)
	}
}

func TestP7_3RecognizeRange(t *testing.T) {
	for _, n := range integers() {
		d, patterns := []int{50, 9, 60, 9, 70}, [][]int{{60}, {50, 9, 60}, {70}, {50}}
		for i := range d {
			changed := slices.Clone(d)
			changed[i] = n
			sameRecognize(t, changed, patterns, 20, recognizeAll(changed, patterns, 20))
		}
		for i, p := range patterns {
			for j := range p {
				changed := slices.Clone(patterns)
				changed[i] = slices.Clone(p)
				changed[i][j] = n
				sameRecognize(t, d, changed, 20, recognizeAll(d, changed, 20))
			}
		}
		sameRecognize(t, d, patterns, n, recognizeAll(d, patterns, n))
		e := api.OK
		if n < 0 || n > 10000 {
			e = api.ErrRange
		}
		if _, _, got := wheel.Recognize(d, patterns, n); got != e {
			t.Errorf("the tolerance %d: error %d, want %d", n, got, e)
		}
	}
}

// A number out of its range comes before ErrNone, wherever it is, also in a pattern that no division has.
func TestP7_3RecognizeOrderOfErrors(t *testing.T) {
	wrong := recognized{e: api.ErrRange}
	for _, n := range []int{0, -1, 10001} {
		sameRecognize(t, []int{n}, nil, 0, wrong)
		sameRecognize(t, []int{7, n}, [][]int{{9}}, 0, wrong)
		sameRecognize(t, []int{n, 7}, [][]int{{9}}, 0, wrong)
		sameRecognize(t, []int{7}, [][]int{{n}}, 0, wrong)
		sameRecognize(t, nil, [][]int{nil, {n}}, 0, wrong)
		sameRecognize(t, []int{7}, [][]int{{7}, {7, 7, 7, 7, n}}, 0, wrong)
		sameRecognize(t, []int{7}, [][]int{{n, 7, 7, 7, 7}, {7}}, 0, wrong)
	}
	for _, n := range []int{-1, 10001} {
		sameRecognize(t, []int{7}, [][]int{{7}}, n, wrong)
		sameRecognize(t, nil, nil, n, wrong)
	}
	long := slices.Repeat([]int{7}, 768)
	long[767] = 0
	sameRecognize(t, long, [][]int{nil}, 0, wrong)
}

// Writing into a result changes no other one and no argument (R2).
func TestP7_3NewMemory(t *testing.T) {
	d, patterns := []int{180, 900, 180, 400, 7}, [][]int{{7}, {180, 900, 180}}
	first, _, _ := wheel.Recognize(d, patterns, 0)
	second, _, _ := wheel.Recognize(d, patterns, 0)
	clear(first[:cap(first)])
	sameRecognize(t, d, patterns, 0, recognized{[]int{1, 0}, 0, api.OK})
	clear(d)
	clear(patterns[1])
	if !slices.Equal(second, []int{1, 0}) {
		t.Errorf("after writing into the arguments and another result: %v", second)
	}
}
