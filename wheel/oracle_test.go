package wheel_test

import (
	"fmt"
	"math"
	"math/big"
	"math/rand/v2"
	"slices"

	"humpyard/api"
	"humpyard/consist"
	"humpyard/wagonnumber"
)

// This file says what the functions of package wheel must return, from the definitions alone.

const maxTime = 1000000000

// kinds has the kind of a wagon for each digit with the index 4 of its Number: f(lat), t(ank), 2 axles, s(ix).
const kinds = "ff2f2fftts"

// axlesOf has the number of axles of each kind.
var axlesOf = map[byte]int{'f': 4, 't': 4, '2': 2, 's': 6}

func offsets(w api.Wagon) ([]int, api.Errno) {
	if e := consist.Valid(w); e != api.OK {
		return nil, e
	}
	n := 10 * w.Length
	switch kinds[w.Number[4]-'0'] {
	case 'f':
		return []int{150, 330, n - 330, n - 150}, api.OK
	case 't':
		return []int{130, 330, n - 330, n - 130}, api.OK
	case '2':
		quarter := (n - n%4) / 4
		return []int{quarter, n - quarter}, api.OK
	}
	return []int{120, 280, 440, n - 440, n - 280, n - 120}, api.OK
}

// distances puts together the distances within each wagon and those from one wagon to the next one.
func distances(l []api.Wagon) ([]int, api.Errno) {
	if len(l) > 96 {
		return nil, api.ErrLimit
	}
	var all []int
	// behind is what is left of the wagon before, behind its last axle.
	behind := 0
	for i, w := range l {
		axles, e := offsets(w)
		if e != api.OK {
			return nil, e
		}
		if i > 0 {
			all = append(all, behind+axles[0])
		}
		all = append(all, patternOf(axles)...)
		behind = 10*w.Length - axles[len(axles)-1]
	}
	return all, api.OK
}

// patternOf returns the distances between neighbouring axles with these offsets.
func patternOf(axles []int) []int {
	var p []int
	for i := range len(axles) - 1 {
		p = append(p, axles[i+1]-axles[i])
	}
	return p
}

// measure divides in numbers of any size, after it has looked at each condition by itself.
func measure(first, second []int, base int) ([]int, api.Errno) {
	if outside(base, 1, 10000) {
		return nil, api.ErrRange
	}
	if len(first) != len(second) || slices.ContainsFunc(slices.Concat(first, second), func(t int) bool { return outside(t, 0, maxTime) }) {
		return nil, api.ErrInvalid
	}
	for i := range first {
		if i > 0 && first[i] <= first[i-1] || second[i] <= first[i] {
			return nil, api.ErrInvalid
		}
	}
	if len(first) > 768 {
		return nil, api.ErrLimit
	}
	var all []int
	for i := range max(len(first)-1, 0) {
		way := new(big.Int).Mul(big.NewInt(int64(first[i+1]-first[i])), big.NewInt(int64(base)))
		all = append(all, int(way.Div(way, big.NewInt(int64(second[i]-first[i]))).Int64()))
	}
	return all, api.OK
}

// outside says whether a number is not in a range.
func outside(n, low, high int) bool {
	return n < low || n > high
}

// recognized is what Recognize returns.
type recognized struct {
	list []int
	cost int
	e    api.Errno
}

// refused returns the error of the arguments of Recognize, but for ErrNone.
func refused(d []int, patterns [][]int, tolerance int) api.Errno {
	if len(d) > 768 || len(patterns) > 16 || slices.ContainsFunc(patterns, func(p []int) bool { return len(p) > 5 }) {
		return api.ErrLimit
	}
	all := append(slices.Concat(patterns...), d...)
	if outside(tolerance, 0, 10000) || slices.ContainsFunc(all, func(n int) bool { return outside(n, 1, 10000) }) {
		return api.ErrRange
	}
	return api.OK
}

// costOf returns the cost of a list of indexes, and whether it is a division.
func costOf(d []int, patterns [][]int, tolerance int, list []int) (int, bool) {
	axles, cost := 0, 0
	for _, k := range list {
		for j, n := range patterns[k] {
			if axles+j >= len(d) || outside(d[axles+j]-n, -tolerance, tolerance) {
				return 0, false
			}
			cost += int(math.Abs(float64(d[axles+j] - n)))
		}
		axles += len(patterns[k]) + 1
	}
	return cost, axles == len(d)+1
}

// lists calls visit for each list of indexes of patterns whose wagons have so many axles, in the lexicographic order.
func lists(patterns [][]int, axles int, begin []int, visit func([]int)) {
	if axles == 0 {
		visit(begin)
		return
	}
	for k, p := range patterns {
		if len(p)+1 <= axles {
			lists(patterns, axles-len(p)-1, append(begin[:len(begin):len(begin)], k), visit)
		}
	}
}

// recognizeAll looks at all lists of wagons that have as many axles as the train. It is for short trains.
func recognizeAll(d []int, patterns [][]int, tolerance int) recognized {
	if e := refused(d, patterns, tolerance); e != api.OK {
		return recognized{e: e}
	}
	best := recognized{e: api.ErrNone}
	lists(patterns, len(d)+1, nil, func(list []int) {
		cost, ok := costOf(d, patterns, tolerance, list)
		if ok && (best.e != api.OK || cost < best.cost) {
			best = recognized{slices.Clone(list), cost, api.OK}
		}
	})
	return best
}

// recognizeForward finds the best division of each beginning of the train and compares their lists. It is for long trains.
func recognizeForward(d []int, patterns [][]int, tolerance int) recognized {
	if e := refused(d, patterns, tolerance); e != api.OK {
		return recognized{e: e}
	}
	best := make([]recognized, len(d)+2)
	for i := range best[1:] {
		best[i+1].e = api.ErrNone
	}
	for i, b := range best[:len(d)+1] {
		if b.e != api.OK {
			continue
		}
		for k, p := range patterns {
			end := i + len(p)
			if end > len(d) {
				continue
			}
			cost, ok := costOf(d[i:end], patterns, tolerance, []int{k})
			if !ok {
				continue
			}
			next := recognized{append(slices.Clone(b.list), k), b.cost + cost, api.OK}
			if old := best[end+1]; old.e != api.OK || next.cost < old.cost || next.cost == old.cost && slices.Compare(next.list, old.list) < 0 {
				best[end+1] = next
			}
		}
	}
	return best[len(d)+1]
}

// numbered returns the number of a wagon of a kind (the digit with the index 4), with a place in it.
func numbered(kind, place int) string {
	digits := fmt.Sprintf("3180%d%06d", kind, place)
	d, e := wagonnumber.Digit(digits)
	if e != api.OK {
		panic("no eleven digits: " + digits)
	}
	return digits + fmt.Sprint(d)
}

// wagon returns a valid wagon of a kind, unless its length is wrong.
func wagon(kind, place, length int) api.Wagon {
	return api.Wagon{Number: numbered(kind, place), Length: length, Axles: axlesOf[kinds[kind]], Mass: 600, Brake: 500, Dest: "mu1"}
}

// shortest returns the least length of a wagon of a kind.
func shortest(kind int) int {
	if kinds[kind] == 's' {
		return 120
	}
	return 80
}

// randomTrain returns n valid wagons.
func randomTrain(r *rand.Rand, n int) []api.Wagon {
	l := make([]api.Wagon, n)
	for i := range l {
		kind := r.IntN(10)
		l[i] = wagon(kind, i, shortest(kind)+r.IntN(401-shortest(kind)))
	}
	return l
}

// randomPatterns returns at most n patterns with the distances from 1 to size.
func randomPatterns(r *rand.Rand, n, size int) [][]int {
	l := make([][]int, r.IntN(n+1))
	for i := range l {
		l[i] = randomDistances(r, r.IntN(6), size)
	}
	return l
}

// randomDistances returns n distances from 1 to size.
func randomDistances(r *rand.Rand, n, size int) []int {
	l := make([]int, n)
	for i := range l {
		l[i] = 1 + r.IntN(size)
	}
	return l
}

// drawn returns distances of a train of at most n distances, n being 5 or more, that has a division: wagons with the patterns, whose distances are changed by at most noise.
func drawn(r *rand.Rand, patterns [][]int, n, noise int) []int {
	var train []int
	for first := true; ; first = false {
		longer := slices.Clone(train)
		if !first {
			// The distance to the next wagon may be any.
			longer = append(longer, 1+r.IntN(10000))
		}
		for _, x := range patterns[r.IntN(len(patterns))] {
			longer = append(longer, min(max(x+r.IntN(2*noise+1)-noise, 1), 10000))
		}
		if len(longer) > n {
			return train
		}
		train = longer
		if r.IntN(n) == 0 {
			return train
		}
	}
}

// integers returns numbers around the limits of this package, numbers that look like valid ones in 32 bits, and the ends of int.
func integers() []int {
	l := []int{math.MinInt, math.MinInt + 1, math.MaxInt, math.MaxInt - 1}
	for _, n := range []int{0, 1, 10000, 1000000000} {
		l = append(l, n-1, n, n+1, -n)
	}
	for p := range 62 {
		l = append(l, 1<<p, -1<<p, 1<<p+5, -1<<p+5)
	}
	return l
}

func random(stream uint64) *rand.Rand {
	return rand.New(rand.NewPCG(7, stream))
}
