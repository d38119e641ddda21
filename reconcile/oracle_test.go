package reconcile_test

import (
	"math"
	"math/big"
	"math/rand/v2"
	"slices"

	"humpyard/api"
)

// This file says what the functions of package reconcile must return, from the definitions alone.

const (
	keep     = api.EditKeep
	misread  = api.EditMisread
	missing  = api.EditMissing
	extra    = api.EditExtra
	exchange = api.EditExchange
)

const maxWagons = 96

// way is a possible edit from the place (i, j) to the place (k, l).
type way struct {
	edit, i, j, k, l, cost int
}

// waysFrom returns the possible edits from a place, a line of the definition each.
func waysFrom(a, b []int, i, j int) []way {
	var l []way
	one, other := i < len(a), j < len(b)
	if one && other && a[i] == b[j] {
		l = append(l, way{keep, i, j, i + 1, j + 1, 0})
	}
	if one && other && a[i] != b[j] {
		l = append(l, way{misread, i, j, i + 1, j + 1, 3})
	}
	if one {
		l = append(l, way{missing, i, j, i + 1, j, 4})
	}
	if other {
		l = append(l, way{extra, i, j, i, j + 1, 4})
	}
	if i+1 < len(a) && j+1 < len(b) && a[i] == b[j+1] && a[i+1] == b[j] && a[i] != a[i+1] {
		l = append(l, way{exchange, i, j, i + 2, j + 2, 4})
	}
	return l
}

// ways returns the possible edits from all places.
func ways(a, b []int) []way {
	var l []way
	for i := range len(a) + 1 {
		for j := range len(b) + 1 {
			l = append(l, waysFrom(a, b, i, j)...)
		}
	}
	return l
}

// listed is a list of edits with its cost.
type listed struct {
	edits []int
	cost  int
}

// scripts returns all scripts from the place (i, j) to the end.
func scripts(a, b []int, i, j int) []listed {
	if i == len(a) && j == len(b) {
		return []listed{{}}
	}
	var all []listed
	for _, w := range waysFrom(a, b, i, j) {
		for _, s := range scripts(a, b, w.k, w.l) {
			all = append(all, listed{append([]int{w.edit}, s.edits...), w.cost + s.cost})
		}
	}
	return all
}

// better says whether s comes before other: it costs less, or as much and is less in the lexicographic order.
func better(s, other listed) bool {
	return s.cost < other.cost || s.cost == other.cost && slices.Compare(s.edits, other.edits) < 0
}

// bestOf returns the script that Align must return, out of all of them.
func bestOf(all []listed) listed {
	best := all[0]
	for _, s := range all {
		if better(s, best) {
			best = s
		}
	}
	return best
}

// align keeps for each place the whole best list of edits that leads to it. Of two lists that lead to one place, the better one stays better when the same edits follow, since neither can be the start of the other.
func align(a, b []int) listed {
	best := map[[2]int]listed{{0, 0}: {}}
	for _, w := range ways(a, b) {
		s := best[[2]int{w.i, w.j}]
		s = listed{append(slices.Clone(s.edits), w.edit), s.cost + w.cost}
		to := [2]int{w.k, w.l}
		if old, there := best[to]; !there || better(s, old) {
			best[to] = s
		}
	}
	return best[[2]int{len(a), len(b)}]
}

// potential takes the least costs down, over all edits again and again, until none can be taken down.
func potential(a, b []int) [][]int {
	p := table(a, b, math.MaxInt/2)
	p[0][0] = 0
	all := ways(a, b)
	for changed := true; changed; {
		changed = false
		for _, w := range all {
			if n := p[w.i][w.j] + w.cost; n < p[w.k][w.l] {
				p[w.k][w.l], changed = n, true
			}
		}
	}
	return p
}

func table(a, b []int, n int) [][]int {
	var p [][]int
	for range len(a) + 1 {
		p = append(p, slices.Repeat([]int{n}, len(b)+1))
	}
	return p
}

// cost walks through both lists, and looks each edit up.
func cost(a, b, edits []int) (int, api.Errno) {
	if len(a) > maxWagons || len(b) > maxWagons {
		return 0, api.ErrLimit
	}
	i, j, sum := 0, 0, 0
	for _, edit := range edits {
		l := waysFrom(a, b, i, j)
		n := slices.IndexFunc(l, func(w way) bool { return w.edit == edit })
		if n < 0 {
			return 0, api.ErrInvalid
		}
		i, j, sum = l[n].k, l[n].l, sum+l[n].cost
	}
	if i != len(a) || j != len(b) {
		return 0, api.ErrInvalid
	}
	return sum, api.OK
}

// verify looks at each condition by itself, in numbers of any size.
func verify(a, b []int, cost int, p [][]int) bool {
	if len(a) > maxWagons || len(b) > maxWagons || len(p) != len(a)+1 {
		return false
	}
	if slices.ContainsFunc(p, func(row []int) bool { return len(row) != len(b)+1 }) {
		return false
	}
	for _, w := range ways(a, b) {
		bound := big.NewInt(int64(p[w.i][w.j]))
		bound.Add(bound, big.NewInt(int64(w.cost)))
		if big.NewInt(int64(p[w.k][w.l])).Cmp(bound) > 0 {
			return false
		}
	}
	return p[0][0] == 0 && p[len(a)][len(b)] >= cost
}

func newRandom(stream uint64) *rand.Rand {
	return rand.New(rand.NewPCG(8, stream))
}

// lists returns all lists of up to n of the numbers below m.
func lists(n, m int) [][]int {
	all := [][]int{nil}
	for from := 0; n > 0; n-- {
		to := len(all)
		for _, l := range all[from:to] {
			for x := range m {
				all = append(all, append(slices.Clone(l), x))
			}
		}
		from = to
	}
	return all
}

// randomLists returns a list of up to n of the numbers below m, and what a bad reading may make of it.
func randomLists(r *rand.Rand, n, m int) (a, b []int) {
	for range r.IntN(n + 1) {
		a = append(a, r.IntN(m))
	}
	b = slices.Clone(a)
	for range r.IntN(n/2 + 1) {
		i := r.IntN(len(b) + 1)
		switch {
		case i == len(b) || r.IntN(4) == 0 && len(b) < n:
			b = slices.Insert(b, i, r.IntN(m))[:min(len(b)+1, n)]
		case r.IntN(3) == 0:
			b = slices.Delete(b, i, i+1)
		case i > 0 && r.IntN(2) == 0:
			b[i-1], b[i] = b[i], b[i-1]
		default:
			b[i] = r.IntN(m)
		}
	}
	return a, b
}

// ends returns integers at the ends of int, and around 0.
func ends() []int {
	var l []int
	for d := range 6 {
		l = append(l, math.MinInt+d, math.MaxInt-d, d, -d)
	}
	return l
}
