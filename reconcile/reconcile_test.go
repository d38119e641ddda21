package reconcile_test

import (
	"math"
	"slices"
	"testing"

	"humpyard/api"
	"humpyard/reconcile"
)

// P8.1

func sameAlign(t *testing.T, a, b, want []int, wantCost int, wantError api.Errno) {
	t.Helper()
	a2, b2 := slices.Clone(a), slices.Clone(b)
	if l, c, e := reconcile.Align(a, b); !slices.Equal(l, want) || c != wantCost || e != wantError {
		t.Errorf("Align(%v, %v): %v, cost %d, error %d; want %v, cost %d, error %d", a, b, l, c, e, want, wantCost, wantError)
	}
	if !slices.Equal(a, a2) || !slices.Equal(b, b2) {
		t.Errorf("Align has changed %v and %v to %v and %v", a2, b2, a, b)
	}
}

func sameCost(t *testing.T, a, b, edits []int, want int, wantError api.Errno) {
	t.Helper()
	a2, b2, edits2 := slices.Clone(a), slices.Clone(b), slices.Clone(edits)
	if c, e := reconcile.Cost(a, b, edits); c != want || e != wantError {
		t.Errorf("Cost(%v, %v, %v): %d, error %d; want %d, error %d", a, b, edits, c, e, want, wantError)
	}
	if !slices.Equal(a, a2) || !slices.Equal(b, b2) || !slices.Equal(edits, edits2) {
		t.Errorf("Cost has changed %v, %v and %v to %v, %v and %v", a2, b2, edits2, a, b, edits)
	}
}

func samePotential(t *testing.T, a, b []int, want [][]int, wantError api.Errno) {
	t.Helper()
	a2, b2 := slices.Clone(a), slices.Clone(b)
	if p, e := reconcile.Potential(a, b); !slices.EqualFunc(p, want, slices.Equal) || e != wantError {
		t.Errorf("Potential(%v, %v): %v, error %d; want %v, error %d", a, b, p, e, want, wantError)
	}
	if !slices.Equal(a, a2) || !slices.Equal(b, b2) {
		t.Errorf("Potential has changed %v and %v to %v and %v", a2, b2, a, b)
	}
}

func TestP8_1Align(t *testing.T) {
	for _, c := range []struct {
		a, b, want []int
		cost       int
	}{
		// the examples of the chapter, and the second one of the document
		{[]int{1, 2, 3}, []int{1, 3}, []int{keep, missing, keep}, 4},
		{[]int{1, 2}, []int{2, 1}, []int{exchange}, 4},
		{[]int{1}, []int{2}, []int{misread}, 3},
		{[]int{1, 3}, []int{1, 2, 3}, []int{keep, extra, keep}, 4},
		{nil, nil, nil, 0}, {[]int{}, nil, nil, 0}, {nil, []int{}, nil, 0}, {[]int{}, []int{}, nil, 0},
		{[]int{7}, nil, []int{missing}, 4}, {nil, []int{7}, []int{extra}, 4}, {[]int{}, []int{7, 7}, []int{extra, extra}, 8},
		{[]int{4, 4, 5}, []int{4, 4, 5}, []int{keep, keep, keep}, 0},
		// equal neighbours cannot be exchanged
		{[]int{1, 1}, []int{1, 1}, []int{keep, keep}, 0}, {[]int{1, 1}, []int{2, 2}, []int{misread, misread}, 6}, {[]int{1, 1}, []int{1, 2}, []int{keep, misread}, 3},
		// the neighbours are exchanged only if both of them fit
		{[]int{1, 2}, []int{2, 3}, []int{misread, misread}, 6}, {[]int{1, 2}, []int{3, 1}, []int{misread, misread}, 6},
		// an exchange at the start, in the middle and at the end; two of them; one that overlaps another
		{[]int{1, 2, 3, 4}, []int{2, 1, 3, 4}, []int{exchange, keep, keep}, 4}, {[]int{1, 2, 3, 4}, []int{1, 3, 2, 4}, []int{keep, exchange, keep}, 4}, {[]int{1, 2, 3, 4}, []int{1, 2, 4, 3}, []int{keep, keep, exchange}, 4},
		{[]int{1, 2, 3, 4}, []int{2, 1, 4, 3}, []int{exchange, exchange}, 8}, {[]int{1, 2, 1}, []int{2, 1, 2}, []int{misread, exchange}, 7},
		// the first one of scripts of equal cost
		{[]int{1, 1}, []int{1}, []int{keep, missing}, 4}, {[]int{1}, []int{1, 1}, []int{keep, extra}, 4}, {[]int{1, 2}, []int{3}, []int{misread, missing}, 7}, {[]int{3}, []int{1, 2}, []int{misread, extra}, 7},
		{[]int{1, 2, 3, 4}, []int{3, 4, 1, 2}, []int{misread, misread, misread, misread}, 12},
		{[]int{1, 2, 3}, []int{2, 3, 1}, []int{missing, keep, keep, extra}, 8}, {[]int{1, 2, 3}, []int{3, 1, 2}, []int{extra, keep, keep, missing}, 8},
		{[]int{math.MinInt, math.MaxInt}, []int{math.MaxInt, math.MinInt}, []int{exchange}, 4}, {[]int{math.MinInt}, []int{math.MaxInt}, []int{misread}, 3}, {[]int{-1, 0}, []int{-1, 1}, []int{keep, misread}, 3},
	} {
		sameAlign(t, c.a, c.b, c.want, c.cost, api.OK)
		sameCost(t, c.a, c.b, c.want, c.cost, api.OK)
	}
}

// All pairs of lists of up to four elements, and of up to six together, with all scripts of each pair.
func TestP8_1AlignDefinition(t *testing.T) {
	for _, a := range lists(4, 3) {
		for _, b := range lists(4, 3) {
			if len(a)+len(b) > 6 {
				continue
			}
			all := scripts(a, b, 0, 0)
			best := bestOf(all)
			sameAlign(t, a, b, best.edits, best.cost, api.OK)
			for _, s := range all {
				if c, e := reconcile.Cost(a, b, s.edits); c != s.cost || e != api.OK {
					t.Fatalf("Cost(%v, %v, %v): %d, error %d; want %d", a, b, s.edits, c, e, s.cost)
				}
			}
		}
	}
}

func TestP8_1AlignLong(t *testing.T) {
	r := newRandom(1)
	for i := range 300 {
		a, b := randomLists(r, 10+i%87, 2+i%7)
		best := align(a, b)
		sameAlign(t, a, b, best.edits, best.cost, api.OK)
	}
}

// The two oracles agree.
func TestP8_1Oracles(t *testing.T) {
	r := newRandom(2)
	for range 300 {
		a, b := randomLists(r, 6, 3)
		best, all := align(a, b), scripts(a, b, 0, 0)
		if other := bestOf(all); !slices.Equal(best.edits, other.edits) || best.cost != other.cost {
			t.Fatalf("%v and %v: %v and %v", a, b, best, other)
		}
	}
}

func TestP8_1AlignNewMemory(t *testing.T) {
	a, b := []int{1, 2, 3}, []int{2, 1}
	first, _, _ := reconcile.Align(a, b)
	want := slices.Clone(first)
	second, _, _ := reconcile.Align(a, b)
	clear(second[:cap(second)])
	second[0] = 77
	if !slices.Equal(first, want) {
		t.Errorf("another result has changed %v to %v", want, first)
	}
	sameAlign(t, []int{1, 2, 3}, []int{2, 1}, want, 7, api.OK)
}

func TestP8_1Cost(t *testing.T) {
	a, b := []int{1, 2, 3}, []int{2, 1, 3}
	for _, c := range []struct {
		edits []int
		cost  int
	}{
		{[]int{exchange, keep}, 4}, {[]int{misread, misread, keep}, 6}, {[]int{missing, keep, extra, keep}, 8}, {[]int{extra, keep, missing, keep}, 8},
		{[]int{missing, missing, missing, extra, extra, extra}, 24}, {[]int{extra, missing, extra, missing, extra, missing}, 24}, {[]int{exchange, missing, extra}, 12}, {[]int{exchange, extra, missing}, 12},
	} {
		sameCost(t, a, b, c.edits, c.cost, api.OK)
	}
	sameCost(t, nil, nil, nil, 0, api.OK)
	sameCost(t, []int{}, []int{}, []int{}, 0, api.OK)
}

func TestP8_1CostInvalid(t *testing.T) {
	for _, c := range []struct {
		a, b, edits []int
	}{
		// an edit that is not possible
		{[]int{1}, []int{1}, []int{misread}}, {[]int{1}, []int{2}, []int{keep}}, {[]int{1, 2}, []int{2, 3}, []int{exchange}}, {[]int{1, 2}, []int{3, 1}, []int{exchange}}, {[]int{1, 1}, []int{1, 1}, []int{exchange}},
		// the elements are not there
		{nil, nil, []int{keep}}, {nil, nil, []int{misread}}, {nil, nil, []int{missing}}, {nil, nil, []int{extra}}, {nil, nil, []int{exchange}},
		{[]int{1}, nil, []int{keep}}, {nil, []int{1}, []int{keep}}, {[]int{1}, nil, []int{misread}}, {nil, []int{1}, []int{misread}}, {[]int{1}, nil, []int{extra}}, {nil, []int{1}, []int{missing}},
		{[]int{1}, []int{2, 1}, []int{exchange}}, {[]int{1, 2}, []int{2}, []int{exchange}}, {[]int{3, 1, 2}, []int{3, 2}, []int{keep, exchange}},
		// elements are left, or edits are left
		{[]int{1}, []int{1}, nil}, {[]int{1}, nil, nil}, {nil, []int{1}, []int{}}, {[]int{1, 2}, []int{1}, []int{keep}}, {[]int{1}, []int{1, 2}, []int{keep}},
		{[]int{1}, []int{1}, []int{keep, keep}}, {[]int{1}, []int{1}, []int{keep, missing}}, {[]int{1}, []int{1}, []int{keep, extra}}, {[]int{1, 2}, []int{2, 1}, []int{exchange, misread}},
	} {
		sameCost(t, c.a, c.b, c.edits, 0, api.ErrInvalid)
	}
	for _, edit := range slices.Concat(ends(), []int{6, 7, 8, 255, 256, 1 << 32}) {
		_, want := cost([]int{1, 2}, []int{2, 1}, []int{edit})
		if (want == api.OK) != (edit == exchange) {
			t.Errorf("edit %d: error %d", edit, want)
		}
		if edit != exchange {
			sameCost(t, []int{1, 2}, []int{2, 1}, []int{edit}, 0, api.ErrInvalid)
			sameCost(t, []int{1, 2}, []int{2, 1}, []int{exchange, edit}, 0, api.ErrInvalid)
		}
	}
}

// All lists of up to four edits with numbers from -1 to 5, for all pairs of lists of up to two elements.
func TestP8_1CostDefinition(t *testing.T) {
	all := lists(4, 7)
	for _, edits := range all {
		for i := range edits {
			edits[i]--
		}
	}
	for _, a := range lists(2, 2) {
		for _, b := range lists(2, 2) {
			for _, edits := range all {
				want, e := cost(a, b, edits)
				sameCost(t, a, b, edits, want, e)
			}
		}
	}
}

// One edit of a script of long lists is another one, is gone, or is there twice.
func TestP8_1CostLong(t *testing.T) {
	r := newRandom(3)
	for i := range 300 {
		a, b := randomLists(r, 10+i%87, 2+i%7)
		edits := append(align(a, b).edits, keep)
		for range 50 {
			changed := slices.Clone(edits[:len(edits)-1])
			k := r.IntN(len(changed) + 1)
			switch {
			case r.IntN(3) == 0 || k == len(changed):
				changed = slices.Insert(changed, k, r.IntN(5))
			case r.IntN(2) == 0:
				changed = slices.Delete(changed, k, k+1)
			default:
				changed[k] = r.IntN(5)
			}
			want, e := cost(a, b, changed)
			sameCost(t, a, b, changed, want, e)
		}
	}
}

func TestP8_1Potential(t *testing.T) {
	for _, c := range []struct {
		a, b []int
		want [][]int
	}{
		{nil, nil, [][]int{{0}}}, {[]int{}, []int{}, [][]int{{0}}},
		{[]int{1, 2}, nil, [][]int{{0}, {4}, {8}}}, {nil, []int{1, 2}, [][]int{{0, 4, 8}}},
		{[]int{1}, []int{1}, [][]int{{0, 4}, {4, 0}}}, {[]int{1}, []int{2}, [][]int{{0, 4}, {4, 3}}},
		{[]int{1, 2}, []int{2, 1}, [][]int{{0, 4, 8}, {4, 3, 4}, {8, 4, 4}}},
		{[]int{1, 1}, []int{1, 1}, [][]int{{0, 4, 8}, {4, 0, 4}, {8, 4, 0}}},
		{[]int{1, 2, 3}, []int{1, 3}, [][]int{{0, 4, 8}, {4, 0, 4}, {8, 4, 3}, {12, 8, 4}}},
		{[]int{math.MinInt, math.MaxInt}, []int{math.MaxInt, math.MinInt}, [][]int{{0, 4, 8}, {4, 3, 4}, {8, 4, 4}}},
	} {
		samePotential(t, c.a, c.b, c.want, api.OK)
	}
}

func TestP8_1PotentialDefinition(t *testing.T) {
	for _, a := range lists(4, 3) {
		for _, b := range lists(4, 3) {
			samePotential(t, a, b, potential(a, b), api.OK)
		}
	}
	r := newRandom(4)
	for i := range 100 {
		a, b := randomLists(r, 10+i%87, 2+i%7)
		samePotential(t, a, b, potential(a, b), api.OK)
	}
}

// Rows share no memory, not even behind their ends.
func TestP8_1PotentialNewMemory(t *testing.T) {
	a, b := []int{1, 2, 1}, []int{2, 1}
	want := potential(a, b)
	first, _ := reconcile.Potential(a, b)
	second, _ := reconcile.Potential(a, b)
	for i, row := range second {
		for j := range row {
			second[i][j] = -7
		}
		second[i] = append(row, -8, -9)
		for k, other := range second {
			if k > i && !slices.Equal(other, want[k]) {
				t.Fatalf("writing to row %d has changed row %d", i, k)
			}
		}
	}
	if !slices.EqualFunc(first, want, slices.Equal) {
		t.Errorf("another result has changed the first one to %v", first)
	}
	samePotential(t, a, b, want, api.OK)
}

func TestP8_1Limit(t *testing.T) {
	full, over := make([]int, maxWagons), make([]int, maxWagons+1)
	for i := range full {
		full[i] = i
	}
	backward := slices.Clone(full)
	slices.Reverse(backward)
	for _, l := range [][2][]int{{full, full}, {full, nil}, {nil, full}, {full, backward}, {over[:maxWagons], full}} {
		best := align(l[0], l[1])
		sameAlign(t, l[0], l[1], best.edits, best.cost, api.OK)
		sameCost(t, l[0], l[1], best.edits, best.cost, api.OK)
		p := potential(l[0], l[1])
		samePotential(t, l[0], l[1], p, api.OK)
		sameVerify(t, l[0], l[1], best.cost, p, true)
	}
	most := slices.Concat(slices.Repeat([]int{missing}, maxWagons), slices.Repeat([]int{extra}, maxWagons))
	sameCost(t, full, full, most, 768, api.OK)
	long := make([]int, 100000)
	for _, l := range [][2][]int{{over, nil}, {nil, over}, {over, over}, {over, full}, {full, over}, {long, nil}, {nil, long}, {long, long}} {
		sameAlign(t, l[0], l[1], nil, 0, api.ErrLimit)
		samePotential(t, l[0], l[1], nil, api.ErrLimit)
	}
}

// ErrLimit comes before ErrInvalid.
func TestP8_1OrderOfErrors(t *testing.T) {
	full, over := make([]int, maxWagons), make([]int, maxWagons+1)
	wrong := slices.Repeat([]int{5}, 300)
	script := slices.Repeat([]int{keep}, maxWagons+1)
	for _, edits := range [][]int{nil, {-1}, {keep}, script, wrong} {
		for _, l := range [][2][]int{{over, nil}, {nil, over}, {over, over}, {over, full}, {full, over}} {
			sameCost(t, l[0], l[1], edits, 0, api.ErrLimit)
		}
		sameCost(t, full, full, edits, 0, api.ErrInvalid)
	}
	sameCost(t, full, full, script[:maxWagons], 0, api.OK)
}

// P8.2

func sameVerify(t *testing.T, a, b []int, cost int, p [][]int, want bool) {
	t.Helper()
	a2, b2, p2 := slices.Clone(a), slices.Clone(b), cloneTable(p)
	if got := reconcile.Verify(a, b, cost, p); got != want {
		t.Errorf("Verify(%v, %v, %d, %v): %t", a, b, cost, p, got)
	}
	if !slices.Equal(a, a2) || !slices.Equal(b, b2) || !slices.EqualFunc(p, p2, slices.Equal) {
		t.Errorf("Verify has changed %v, %v or %v", a2, b2, p2)
	}
}

func cloneTable(p [][]int) [][]int {
	var rows [][]int
	for _, row := range p {
		rows = append(rows, slices.Clone(row))
	}
	return rows
}

func TestP8_2Verify(t *testing.T) {
	a, b := []int{1, 2}, []int{2, 1}
	for _, c := range []struct {
		cost int
		p    [][]int
		want bool
	}{
		{4, [][]int{{0, 4, 8}, {4, 3, 4}, {8, 4, 4}}, true}, {5, [][]int{{0, 4, 8}, {4, 3, 4}, {8, 4, 4}}, false}, {3, [][]int{{0, 4, 8}, {4, 3, 4}, {8, 4, 4}}, true}, {math.MinInt, [][]int{{0, 4, 8}, {4, 3, 4}, {8, 4, 4}}, true}, {math.MaxInt, [][]int{{0, 4, 8}, {4, 3, 4}, {8, 4, 4}}, false},
		// other potentials
		{0, [][]int{{0, 0, 0}, {0, 0, 0}, {0, 0, 0}}, true}, {1, [][]int{{0, 0, 0}, {0, 0, 0}, {0, 0, 0}}, false}, {4, [][]int{{0, 4, 6}, {4, 3, 4}, {3, 4, 4}}, true}, {-3, [][]int{{0, -1, -2}, {-1, -2, -3}, {-2, -3, -3}}, true},
		// the first number
		{4, [][]int{{1, 4, 8}, {4, 3, 4}, {8, 4, 4}}, false}, {4, [][]int{{-1, 3, 7}, {3, 2, 3}, {7, 3, 3}}, false}, {3, [][]int{{-1, 3, 7}, {3, 2, 3}, {7, 3, 3}}, false},
		// too great by 1 for an extra element, a missing one, a misread one, an exchange, and one kept
		{4, [][]int{{0, 5, 8}, {4, 3, 4}, {8, 4, 4}}, false}, {4, [][]int{{0, 4, 8}, {5, 3, 4}, {8, 4, 4}}, false}, {4, [][]int{{0, 4, 8}, {4, 4, 4}, {8, 4, 4}}, false}, {4, [][]int{{0, 4, 8}, {4, 3, 5}, {8, 5, 5}}, false}, {4, [][]int{{0, 4, 8}, {4, 3, 5}, {8, 4, 4}}, false}, {4, [][]int{{0, 4, 8}, {4, 3, 4}, {8, 5, 4}}, false},
		{5, [][]int{{0, 5, 5}, {5, 5, 5}, {5, 5, 5}}, false}, {5, [][]int{{0, 4, 5}, {4, 3, 4}, {5, 4, 5}}, false},
	} {
		sameVerify(t, a, b, c.cost, c.p, c.want)
	}
	sameVerify(t, nil, nil, 0, [][]int{{0}}, true)
	sameVerify(t, nil, nil, 1, [][]int{{0}}, false)
	sameVerify(t, nil, nil, 0, [][]int{{1}}, false)
	sameVerify(t, nil, nil, 0, [][]int{{-1}}, false)
	sameVerify(t, nil, nil, -1, [][]int{{-1}}, false)
	// equal neighbours cannot be exchanged, but kept
	sameVerify(t, []int{1, 1}, []int{1, 1}, 0, [][]int{{0, 4, 8}, {4, 0, 4}, {8, 4, 0}}, true)
	sameVerify(t, []int{1, 1}, []int{2, 2}, 6, [][]int{{0, 4, 8}, {4, 3, 7}, {8, 7, 6}}, true)
	sameVerify(t, []int{1}, []int{1}, 1, [][]int{{0, 4}, {4, 1}}, false)
}

func TestP8_2VerifyShape(t *testing.T) {
	a, b := []int{1, 2}, []int{2, 3, 1}
	p := potential(a, b)
	sameVerify(t, a, b, 0, p, true)
	sameVerify(t, a, b, 0, nil, false)
	sameVerify(t, a, b, 0, [][]int{}, false)
	sameVerify(t, a, b, 0, [][]int{{0}}, false)
	sameVerify(t, a, b, 0, make([][]int, 3), false)
	sameVerify(t, nil, nil, 0, nil, false)
	sameVerify(t, nil, nil, 0, [][]int{nil}, false)
	sameVerify(t, nil, nil, 0, [][]int{{0}, {0}}, false)
	sameVerify(t, nil, nil, 0, [][]int{{0}, nil}, false)
	sameVerify(t, nil, nil, 0, [][]int{{0, 0}}, false)
	sameVerify(t, a, b, 0, p[:2], false)
	sameVerify(t, a, b, 0, append(cloneTable(p), make([]int, 4)), false)
	sameVerify(t, a, b, 0, append(cloneTable(p), nil), false)
	sameVerify(t, b, a, 0, p, false)
	for i := range p {
		short, long := cloneTable(p), cloneTable(p)
		short[i] = short[i][:3]
		long[i] = append(long[i], 0)
		sameVerify(t, a, b, 0, short, false)
		sameVerify(t, a, b, 0, long, false)
		short[i] = nil
		sameVerify(t, a, b, 0, short, false)
	}
}

func TestP8_2VerifyLimit(t *testing.T) {
	full, over := make([]int, maxWagons), make([]int, maxWagons+1)
	for _, l := range [][2][]int{{full, full}, {full, nil}, {nil, full}} {
		sameVerify(t, l[0], l[1], 0, table(l[0], l[1], 0), true)
	}
	for _, l := range [][2][]int{{over, nil}, {nil, over}, {over, full}, {full, over}, {over, over}} {
		sameVerify(t, l[0], l[1], 0, table(l[0], l[1], 0), false)
		sameVerify(t, l[0], l[1], 0, nil, false)
	}
}

// Sums and differences of the numbers do not overflow.
func TestP8_2VerifyEnds(t *testing.T) {
	for _, n := range ends() {
		for _, m := range ends() {
			for _, c := range []struct{ a, b []int }{{[]int{1, 2}, nil}, {nil, []int{1, 2}}} {
				p := table(c.a, c.b, 0)
				if len(p) == 1 {
					p[0][1], p[0][2] = n, m
				} else {
					p[1][0], p[2][0] = n, m
				}
				for _, cost := range []int{m - 1, m, m + 1, math.MinInt, math.MaxInt} {
					sameVerify(t, c.a, c.b, cost, p, verify(c.a, c.b, cost, p))
				}
			}
			for _, b := range [][]int{{1}, {2}} {
				p := [][]int{{0, n}, {n, m}}
				sameVerify(t, []int{1}, b, m, p, verify([]int{1}, b, m, p))
				p = [][]int{{0, math.MinInt}, {n, m}}
				sameVerify(t, []int{1}, b, m, p, verify([]int{1}, b, m, p))
			}
		}
	}
	least := [][]int{{0, math.MinInt, math.MinInt + 4}, {math.MinInt, math.MinInt, math.MinInt}, {math.MinInt + 4, math.MinInt, math.MinInt}}
	sameVerify(t, []int{1, 2}, []int{2, 1}, math.MinInt, least, true)
	least[0][2]++
	sameVerify(t, []int{1, 2}, []int{2, 1}, math.MinInt, least, false)
}

// Each number of a potential is changed.
func TestP8_2VerifyChanged(t *testing.T) {
	for _, a := range lists(3, 3) {
		for _, b := range lists(3, 3) {
			p := potential(a, b)
			least := p[len(a)][len(b)]
			for i := range p {
				for j := range p[i] {
					old := p[i][j]
					for _, d := range []int{-5, -4, -3, -2, -1, 1} {
						p[i][j] = old + d
						sameVerify(t, a, b, least-1, p, verify(a, b, least-1, p))
					}
					p[i][j] = old
				}
			}
		}
	}
}

func TestP8_2VerifyRandom(t *testing.T) {
	r := newRandom(5)
	held := 0
	for i := range 3000 {
		a, b := randomLists(r, 2+i%20, 2+i%3)
		p := potential(a, b)
		low := r.IntN(3)
		for range r.IntN(3) {
			p[r.IntN(len(p))][r.IntN(len(b)+1)] -= low
		}
		cost := p[len(a)][len(b)] - r.IntN(5) + r.IntN(3)
		want := verify(a, b, cost, p)
		if want {
			held++
		}
		sameVerify(t, a, b, cost, p, want)
	}
	if held < 500 || held > 2500 {
		t.Errorf("%d of 3000 tables are potentials", held)
	}
}

// The consequences of the chapter.

func TestP8_2ProofOfAlign(t *testing.T) {
	r := newRandom(6)
	for i := range 500 {
		a, b := randomLists(r, maxWagons, 2+i%30)
		edits, least, e := reconcile.Align(a, b)
		p, e2 := reconcile.Potential(a, b)
		if e != api.OK || e2 != api.OK {
			t.Fatalf("%v, %v: errors %d, %d", a, b, e, e2)
		}
		sameCost(t, a, b, edits, least, api.OK)
		sameVerify(t, a, b, least, p, true)
		sameVerify(t, a, b, least+1, p, false)
		if (least == 0) != slices.Equal(a, b) {
			t.Errorf("%v, %v: cost %d", a, b, least)
		}
		if _, exchanged, _ := reconcile.Align(b, a); exchanged != least {
			t.Errorf("%v, %v: cost %d, but %d the other way round", a, b, least, exchanged)
		}
	}
}
