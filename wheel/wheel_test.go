package wheel_test

import (
	"math"
	"slices"
	"testing"

	"humpyard/api"
	"humpyard/consist"
	"humpyard/wheel"
)

// P7.1

func sameOffsets(t *testing.T, w api.Wagon, want []int, wantError api.Errno) {
	t.Helper()
	if l, e := wheel.Offsets(w); !slices.Equal(l, want) || e != wantError {
		t.Errorf("Offsets(%+v): %v, error %d; want %v, error %d", w, l, e, want, wantError)
	}
}

func TestP7_1Offsets(t *testing.T) {
	for _, c := range []struct {
		kind, length int
		want         []int
	}{
		{0, 200, []int{150, 330, 1670, 1850}}, {0, 80, []int{150, 330, 470, 650}}, {0, 400, []int{150, 330, 3670, 3850}},
		{7, 200, []int{130, 330, 1670, 1870}}, {8, 80, []int{130, 330, 470, 670}}, {7, 400, []int{130, 330, 3670, 3870}},
		// a quarter of 1000, 1010, 1020, 1030, 800 and 3990
		{2, 100, []int{250, 750}}, {4, 101, []int{252, 758}}, {2, 102, []int{255, 765}}, {4, 103, []int{257, 773}}, {2, 80, []int{200, 600}}, {4, 399, []int{997, 2993}},
		{9, 120, []int{120, 280, 440, 760, 920, 1080}}, {9, 400, []int{120, 280, 440, 3560, 3720, 3880}},
	} {
		sameOffsets(t, wagon(c.kind, 0, c.length), c.want, api.OK)
	}
}

// Each kind of number with each length, whether a wagon may have it or not.
func TestP7_1OffsetsDefinition(t *testing.T) {
	for kind := range 10 {
		for length := range 450 {
			w := wagon(kind, length, length)
			want, e := offsets(w)
			if (e == api.OK) != (shortest(kind) <= length && length <= 400) {
				t.Fatalf("%+v: error %d", w, e)
			}
			sameOffsets(t, w, want, e)
		}
	}
}

// The offsets follow from the kind and the length alone.
func TestP7_1OffsetsOtherParts(t *testing.T) {
	for kind := range 10 {
		w := wagon(kind, 1, 237)
		want, _ := offsets(w)
		w.Number = numbered(kind, 999999)
		w.Mass, w.Brake, w.Goods, w.Gentle, w.Dest = 2000, 0, 9, true, "zzzzzzzzz999"
		sameOffsets(t, w, want, api.OK)
	}
}

// wrongWagons returns wagons with an error each; in the second half, the errors that come later in a wagon are there too.
func wrongWagons() ([]api.Wagon, []api.Errno) {
	wrong := []func(w *api.Wagon){
		func(w *api.Wagon) { w.Number = w.Number[:11] },
		func(w *api.Wagon) { w.Number = "318027731236" },
		func(w *api.Wagon) { w.Axles++ },
		func(w *api.Wagon) { w.Length = 401 },
		func(w *api.Wagon) { w.Dest = "" },
	}
	errors := []api.Errno{api.ErrForm, api.ErrChecksum, api.ErrInvalid, api.ErrRange, api.ErrName}
	l := make([]api.Wagon, 2*len(wrong))
	for i := range wrong {
		l[i], l[len(wrong)+i] = wagon(0, i, 200), wagon(9, i, 200)
		wrong[i](&l[i])
		for _, change := range slices.Backward(wrong[i:]) {
			change(&l[len(wrong)+i])
		}
	}
	return l, append(errors, errors...)
}

func TestP7_1OffsetsErrors(t *testing.T) {
	l, errors := wrongWagons()
	for i, w := range l {
		sameOffsets(t, w, nil, errors[i])
	}
	sameOffsets(t, api.Wagon{}, nil, api.ErrForm)
	for _, n := range integers() {
		for _, part := range []func(w *api.Wagon){
			func(w *api.Wagon) { w.Length = n },
			func(w *api.Wagon) { w.Axles = n },
			func(w *api.Wagon) { w.Mass = n },
			func(w *api.Wagon) { w.Brake = n },
			func(w *api.Wagon) { w.Goods = n },
		} {
			for _, kind := range []int{0, 2, 7, 9} {
				w := wagon(kind, 5, 237)
				part(&w)
				want, e := offsets(w)
				if e != consist.Valid(w) {
					t.Fatalf("%+v: error %d", w, e)
				}
				sameOffsets(t, w, want, e)
			}
		}
	}
}

func sameDistances(t *testing.T, l []api.Wagon, want []int, wantError api.Errno) {
	t.Helper()
	before := slices.Clone(l)
	if d, e := wheel.Distances(l); !slices.Equal(d, want) || e != wantError {
		t.Errorf("Distances of %d wagons, %+v: %v, error %d; want %v, error %d", len(l), l[:min(len(l), 5)], d, e, want, wantError)
	}
	if !slices.Equal(l, before) {
		t.Errorf("Distances has changed its list of %d wagons", len(l))
	}
}

func TestP7_1Distances(t *testing.T) {
	flat, tank, two, six := wagon(0, 1, 200), wagon(7, 2, 80), wagon(2, 3, 101), wagon(9, 4, 120)
	for _, c := range []struct {
		l    []api.Wagon
		want []int
	}{
		{nil, nil}, {[]api.Wagon{}, nil},
		{[]api.Wagon{two}, []int{506}},
		{[]api.Wagon{flat}, []int{180, 1340, 180}},
		{[]api.Wagon{tank}, []int{200, 140, 200}},
		{[]api.Wagon{six}, []int{160, 160, 320, 160, 160}},
		{[]api.Wagon{two, two}, []int{506, 504, 506}},
		{[]api.Wagon{flat, tank}, []int{180, 1340, 180, 280, 200, 140, 200}},
		{[]api.Wagon{tank, flat}, []int{200, 140, 200, 280, 180, 1340, 180}},
		{[]api.Wagon{six, two, flat}, []int{160, 160, 320, 160, 160, 372, 506, 402, 180, 1340, 180}},
	} {
		sameDistances(t, c.l, c.want, api.OK)
	}
}

// Each two kinds in a row, with several lengths.
func TestP7_1DistancesPairs(t *testing.T) {
	lengths := []int{120, 121, 122, 123, 399, 400}
	for a := range 10 {
		for b := range 10 {
			for _, m := range lengths {
				for _, n := range lengths {
					l := []api.Wagon{wagon(a, 1, m), wagon(b, 2, n)}
					want, _ := distances(l)
					sameDistances(t, l, want, api.OK)
				}
			}
		}
	}
}

func TestP7_1DistancesTrains(t *testing.T) {
	r := random(1)
	for n := range 97 {
		l := randomTrain(r, n)
		want, e := distances(l)
		if e != api.OK {
			t.Fatalf("%d wagons: error %d", n, e)
		}
		sameDistances(t, l, want, api.OK)
	}
	longest := slices.Repeat([]api.Wagon{wagon(9, 1, 400)}, 96)
	d, e := wheel.Distances(longest)
	if len(d) != 575 || e != api.OK {
		t.Errorf("96 wagons with 576 axles: %d distances, error %d", len(d), e)
	}
	sum := 0
	for _, n := range d {
		sum += n
	}
	if sum != 96*4000-240 {
		t.Errorf("the first axle and the last one are %d cm apart", sum)
	}
}

// Numbers may be used twice: P7.1 names no error for that.
func TestP7_1DistancesSameNumber(t *testing.T) {
	two := wagon(2, 1, 100)
	sameDistances(t, []api.Wagon{two, two, two}, []int{500, 500, 500, 500, 500}, api.OK)
}

func TestP7_1DistancesErrors(t *testing.T) {
	wrong, errors := wrongWagons()
	for i, w := range wrong {
		for n := range 4 {
			l := randomTrain(random(2), 4)
			l[n] = w
			sameDistances(t, l, nil, errors[i])
			// the first wagon with an error counts
			for k, other := range wrong {
				sameDistances(t, append(l[:4:4], other), nil, errors[i])
				sameDistances(t, append([]api.Wagon{other}, l...), nil, errors[k])
			}
		}
	}
}

func TestP7_1DistancesLimit(t *testing.T) {
	wrong, errors := wrongWagons()
	for i, w := range wrong {
		l := randomTrain(random(3), 96)
		l[95] = w
		sameDistances(t, l, nil, errors[i])
		sameDistances(t, append([]api.Wagon{w}, l...), nil, api.ErrLimit)
	}
	for _, n := range []int{97, 98, 192, 10000} {
		sameDistances(t, slices.Repeat([]api.Wagon{wagon(0, 1, 200)}, n), nil, api.ErrLimit)
		sameDistances(t, make([]api.Wagon, n), nil, api.ErrLimit)
	}
}

// Writing into a result changes no other one (R2).
func TestP7_1NewMemory(t *testing.T) {
	for kind := range 10 {
		w := wagon(kind, 1, 200)
		for _, f := range []func() []int{
			func() []int { l, _ := wheel.Offsets(w); return l },
			func() []int { l, _ := wheel.Distances([]api.Wagon{w, w}); return l },
		} {
			first, second := f(), f()
			want := slices.Clone(first)
			clear(first[:cap(first)])
			if !slices.Equal(second, want) || !slices.Equal(f(), want) {
				t.Errorf("after writing into a result for %+v: %v and %v, want %v", w, second, f(), want)
			}
		}
	}
}

// P7.2

func sameMeasure(t *testing.T, first, second []int, base int, want []int, wantError api.Errno) {
	t.Helper()
	a, b := slices.Clone(first), slices.Clone(second)
	if d, e := wheel.Measure(first, second, base); !slices.Equal(d, want) || e != wantError {
		t.Errorf("Measure of %d and %d times, %v, %v, %d: %v, error %d; want %v, error %d", len(first), len(second), first[:min(len(first), 9)], second[:min(len(second), 9)], base, d[:min(len(d), 9)], e, want[:min(len(want), 9)], wantError)
	}
	if !slices.Equal(first, a) || !slices.Equal(second, b) {
		t.Errorf("Measure has changed its lists of %d and %d times", len(a), len(b))
	}
}

// measureAsDefined compares Measure with its definition.
func measureAsDefined(t *testing.T, first, second []int, base int) {
	t.Helper()
	want, e := measure(first, second, base)
	sameMeasure(t, first, second, base, want, e)
}

func TestP7_2Measure(t *testing.T) {
	for _, c := range []struct {
		first, second []int
		base          int
		want          []int
	}{
		{nil, nil, 1, nil}, {nil, []int{}, 10000, nil}, {[]int{}, nil, 10000, nil},
		{[]int{0}, []int{1}, 10000, nil}, {[]int{maxTime - 1}, []int{maxTime}, 1, nil},
		{[]int{0, 100}, []int{50, 160}, 100, []int{200}},
		{[]int{0, 100, 250}, []int{50, 160, 251}, 100, []int{200, 250}},
		// 70 / 3, 71 / 3 and 72 / 3
		{[]int{0, 70}, []int{3, 71}, 1, []int{23}}, {[]int{0, 71}, []int{3, 72}, 1, []int{23}}, {[]int{0, 72}, []int{3, 73}, 1, []int{24}},
		// less than 1
		{[]int{0, 1}, []int{2, 3}, 1, []int{0}}, {[]int{0, 1}, []int{maxTime, maxTime}, 10000, []int{0}},
		// the second axle may be at the second detector before the first one
		{[]int{0, 9}, []int{20, 10}, 100, []int{45}}, {[]int{0, 1, 2}, []int{9, 9, 9}, 72, []int{8, 9}},
		{[]int{0, maxTime - 1}, []int{1, maxTime}, 10000, []int{9999999990000}},
		{[]int{0, maxTime - 1}, []int{2, maxTime}, 10000, []int{4999999995000}},
		{[]int{5, maxTime - 1}, []int{maxTime, maxTime}, 10000, []int{9999}},
	} {
		sameMeasure(t, c.first, c.second, c.base, c.want, api.OK)
	}
}

// All times of two axles up to 5, right and wrong, and of three axles that are right.
func TestP7_2MeasureDefinition(t *testing.T) {
	for n := range 7 * 7 * 7 * 7 {
		first, second := []int{n%7 - 1, n/7%7 - 1}, []int{n/49%7 - 1, n/343 - 1}
		for _, base := range []int{1, 2, 7, 10} {
			measureAsDefined(t, first, second, base)
		}
	}
	r := random(4)
	for range 20000 {
		first, second := randomTimes(r.IntN, r.IntN(8))
		measureAsDefined(t, first, second, 1+r.IntN(10000))
	}
}

// randomTimes returns the times of n axles that are right.
func randomTimes(below func(int) int, n int) (first, second []int) {
	t := below(3)
	size := []int{3, 300, maxTime / 1000}[below(3)]
	for range n {
		first = append(first, t)
		second = append(second, t+1+below(size))
		t += 1 + below(size)
	}
	return first, second
}

func TestP7_2MeasureBase(t *testing.T) {
	good, wrong := []int{0, 700}, []int{9}
	for _, base := range append(integers(), 2, 9999) {
		want, e := []int{700 * base / 7}, api.OK
		if base < 1 || base > 10000 {
			want, e = nil, api.ErrRange
			// it comes before the errors of the times
			sameMeasure(t, good, wrong, base, nil, api.ErrRange)
			sameMeasure(t, make([]int, 769), make([]int, 769), base, nil, api.ErrRange)
			sameMeasure(t, nil, nil, base, nil, api.ErrRange)
		}
		sameMeasure(t, good, []int{7, 701}, base, want, e)
	}
}

func TestP7_2MeasureInvalid(t *testing.T) {
	good, behind := []int{10, 20, 30}, []int{15, 25, 35}
	for _, c := range [][2][]int{
		{nil, {1}}, {{1}, nil}, {good, behind[:2]}, {good[:2], behind}, {good, append(behind[:3:3], 45)}, {append(good[:3:3], 40), behind},
		{{10, 10, 30}, behind}, {{10, 9, 30}, behind}, {{10, 20, 20}, behind}, {{10, 20, 19}, behind}, {{10, 20, 5}, behind}, {{14, 20, 14}, behind},
		{good, {10, 25, 35}}, {good, {15, 20, 35}}, {good, {15, 25, 30}}, {good, {9, 25, 35}}, {good, {15, 25, 29}}, {good, {0, 25, 35}},
		{{-1, 20, 30}, behind}, {{-1}, {0}}, {{-2}, {-1}}, {{math.MinInt}, {5}}, {{5}, {math.MinInt}}, {{0}, {0}}, {{0}, {-1}},
		{{5}, {maxTime + 1}}, {good, {15, 25, maxTime + 1}}, {good, {maxTime + 1, 25, 35}}, {{maxTime}, {maxTime}}, {{maxTime}, {maxTime + 1}}, {{5}, {math.MaxInt}}, {{math.MaxInt - 1}, {math.MaxInt}},
	} {
		for _, base := range []int{1, 100, 10000} {
			sameMeasure(t, c[0], c[1], base, nil, api.ErrInvalid)
		}
	}
	for _, n := range integers() {
		for i := range good {
			changed := slices.Clone(good)
			changed[i] = n
			measureAsDefined(t, changed, behind, 70)
			changed = slices.Clone(behind)
			changed[i] = n
			measureAsDefined(t, good, changed, 70)
		}
		measureAsDefined(t, []int{n}, []int{n + 1}, 70)
		measureAsDefined(t, []int{n - 1, n}, []int{n, n + 1}, 70)
	}
}

// steady returns the times of n axles that are 5 ms apart and need 2 ms from one detector to the other.
func steady(n int) (first, second []int) {
	for i := range n {
		first = append(first, 5*i)
		second = append(second, 5*i+2)
	}
	return first, second
}

func TestP7_2MeasureLimit(t *testing.T) {
	for _, n := range []int{767, 768} {
		first, second := steady(n)
		sameMeasure(t, first, second, 101, slices.Repeat([]int{252}, n-1), api.OK)
		second[n-1] = first[n-1]
		sameMeasure(t, first, second, 101, nil, api.ErrInvalid)
	}
	for _, n := range []int{769, 770, 1536, 100000} {
		first, second := steady(n)
		sameMeasure(t, first, second, 101, nil, api.ErrLimit)
		// what is not valid comes first, wherever it is
		sameMeasure(t, first, second[:n-1], 101, nil, api.ErrInvalid)
		sameMeasure(t, first[:n-1], second, 101, nil, api.ErrInvalid)
		for _, i := range []int{0, 767, 768, n - 1} {
			spoilt := slices.Clone(second)
			spoilt[i] = first[i]
			sameMeasure(t, first, spoilt, 101, nil, api.ErrInvalid)
			spoilt[i] = maxTime + 1
			sameMeasure(t, first, spoilt, 101, nil, api.ErrInvalid)
		}
		for _, i := range []int{1, 768, n - 1} {
			spoilt := slices.Clone(first)
			spoilt[i] = first[i-1]
			sameMeasure(t, spoilt, second, 101, nil, api.ErrInvalid)
		}
	}
}

// Trains that roll over two detectors at a steady speed are measured as they are announced.
func TestP7_2MeasureTrains(t *testing.T) {
	r := random(5)
	for n := range 97 {
		d, _ := wheel.Distances(randomTrain(r, n))
		// 100 cm in 300 ms
		first, second := []int{7}, []int{307}
		for _, cm := range d {
			first = append(first, first[len(first)-1]+3*cm)
			second = append(second, first[len(first)-1]+300)
		}
		sameMeasure(t, first, second, 100, d, api.OK)
	}
}

// Writing into a result changes no other one and no argument (R2).
func TestP7_2NewMemory(t *testing.T) {
	first, second := steady(9)
	one, _ := wheel.Measure(first, second, 101)
	two, _ := wheel.Measure(first, second, 101)
	clear(one[:cap(one)])
	sameMeasure(t, first, second, 101, two, api.OK)
	clear(first)
	if !slices.Equal(two, slices.Repeat([]int{252}, 8)) {
		t.Errorf("after writing into an argument and another result: %v", two)
	}
}
