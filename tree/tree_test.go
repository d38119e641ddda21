package tree_test

import (
	"fmt"
	"math"
	"slices"
	"testing"

	"humpyard/api"
	"humpyard/layout"
	"humpyard/tree"
)

// example is the layout of the chapter's examples.
func example() []api.Element {
	return []api.Element{
		element(crest, "c", -1, none),
		element(points, "w", 0, none),
		element(track, "a", 1, left),
		element(track, "b", 1, right),
	}
}

// yard has segments, retarders, switches behind switches and tracks at several depths, not in the order of the sides.
func yard() []api.Element {
	return []api.Element{
		element(crest, "c", -1, none),
		element(segment, "ramp", 0, none),
		element(retarder, "r1", 1, none),
		element(points, "w1", 2, none),
		element(segment, "s1", 3, right),
		element(track, "t1", 3, left),
		element(points, "w2", 4, none),
		element(track, "t5", 6, right),
		element(points, "w3", 6, left),
		element(retarder, "r2", 8, right),
		element(points, "w4", 8, left),
		element(track, "t3", 10, right),
		element(track, "t4", 9, none),
		element(track, "t2", 10, left),
	}
}

// chain is a layout of n elements in a row, with no switch.
func chain(n int) []api.Element {
	l := []api.Element{element(crest, "c", -1, none)}
	for i := 1; i < n; i++ {
		l = append(l, element([]int{segment, retarder}[i%2], fmt.Sprintf("e%d", i), i-1, none))
	}
	l[n-1] = element(track, "t", n-2, none)
	return l
}

// comb is a layout of n tracks: one side of each switch is a track, the other one the next switch.
func comb(n, trackSide, switchSide int) []api.Element {
	l := []api.Element{element(crest, "c", -1, none)}
	parent, side := 0, none
	for i := 1; i < n; i++ {
		l = append(l, element(points, fmt.Sprintf("w%d", i), parent, side))
		parent, side = len(l)-1, switchSide
		l = append(l, element(track, fmt.Sprintf("t%d", i), parent, trackSide))
	}
	return append(l, element(track, "last", parent, side))
}

// long is a layout of n elements, of which the first 2*tracks are a comb whose last track stands behind a row of segments.
func long(n, tracks int) []api.Element {
	l := comb(tracks, left, right)
	last := l[len(l)-1]
	l = l[:len(l)-1]
	for len(l) < n-1 {
		l = append(l, element(segment, fmt.Sprintf("s%d", len(l)), last.Parent, last.Side))
		last.Parent, last.Side = len(l)-1, none
	}
	return append(l, last)
}

// sameList checks a result that is a list, its error, and that the layout has stayed as it was.
func sameList[T comparable](t *testing.T, call string, l, before []api.Element, got []T, e api.Errno, want []T, wantError api.Errno) {
	t.Helper()
	if e != wantError || !slices.Equal(got, want) {
		t.Errorf("%s of %d elements %+v: %v, error %d; want %v, error %d", call, len(l), l[:min(len(l), 8)], got, e, want, wantError)
	}
	if !slices.Equal(l, before) {
		t.Errorf("%s: %+v has become %+v", call, before, l)
	}
}

func sameTracks(t *testing.T, l []api.Element, want []int, wantError api.Errno) {
	t.Helper()
	before := slices.Clone(l)
	got, e := tree.Tracks(l)
	sameList(t, "Tracks", l, before, got, e, want, wantError)
}

func samePath(t *testing.T, l []api.Element, i int, want []int, wantError api.Errno) {
	t.Helper()
	before := slices.Clone(l)
	got, e := tree.Path(l, i)
	sameList(t, fmt.Sprintf("Path(%d)", i), l, before, got, e, want, wantError)
}

func sameCommon(t *testing.T, l []api.Element, i, k, want int, wantError api.Errno) {
	t.Helper()
	before := slices.Clone(l)
	got, e := tree.Common(l, i, k)
	sameList(t, fmt.Sprintf("Common(%d, %d)", i, k), l, before, []int{got}, e, []int{want}, wantError)
}

func sameSettings(t *testing.T, l []api.Element, i int, want [][2]int, wantError api.Errno) {
	t.Helper()
	before := slices.Clone(l)
	got, e := tree.Settings(l, i)
	sameList(t, fmt.Sprintf("Settings(%d)", i), l, before, got, e, want, wantError)
}

func sameBeyond(t *testing.T, l []api.Element, i int, want []int, wantError api.Errno) {
	t.Helper()
	before := slices.Clone(l)
	got, e := tree.Beyond(l, i)
	sameList(t, fmt.Sprintf("Beyond(%d)", i), l, before, got, e, want, wantError)
}

// sameErrors checks that each function returns an error for a list and an index, and nothing else.
func sameErrors(t *testing.T, l []api.Element, i int, want api.Errno) {
	t.Helper()
	samePath(t, l, i, nil, want)
	sameCommon(t, l, i, i, 0, want)
	sameCommon(t, l, i, 0, 0, want)
	sameCommon(t, l, 0, i, 0, want)
	sameSettings(t, l, i, nil, want)
	sameBeyond(t, l, i, nil, want)
}

// sameAsDefined compares all results for a layout with what they must be.
func sameAsDefined(t *testing.T, l []api.Element) {
	t.Helper()
	if e := layout.Valid(l); e != api.OK {
		t.Fatalf("%+v is no layout: %d", l, e)
	}
	a := allOf(l)
	sameTracks(t, l, a.tracks, api.OK)
	for i := range l {
		samePath(t, l, i, a.paths[i], api.OK)
		sameSettings(t, l, i, a.settings[i], api.OK)
		sameBeyond(t, l, i, a.beyond[i], api.OK)
		for k := range l {
			sameCommon(t, l, i, k, a.common[i][k], api.OK)
		}
	}
}

// P10.1

func TestP10_1Tracks(t *testing.T) {
	sameTracks(t, example(), []int{2, 3}, api.OK)
	sameTracks(t, yard(), []int{5, 7, 11, 12, 13}, api.OK)
	sameTracks(t, chain(2), []int{1}, api.OK)
	sameTracks(t, chain(128), []int{127}, api.OK)
}

func TestP10_1TracksNumber(t *testing.T) {
	for n := 1; n <= 32; n++ {
		tracks, e := tree.Tracks(comb(n, left, right))
		if len(tracks) != n || e != api.OK {
			t.Errorf("comb of %d tracks: %v, error %d", n, tracks, e)
		}
	}
	sameTracks(t, comb(33, left, right), nil, api.ErrLimit)
	sameErrors(t, comb(33, left, right), 0, api.ErrLimit)
}

func TestP10_1Path(t *testing.T) {
	samePath(t, example(), 3, []int{0, 1, 3}, api.OK)
	for i, want := range [][]int{
		{0},
		{0, 1},
		{0, 1, 2},
		{0, 1, 2, 3},
		{0, 1, 2, 3, 4},
		{0, 1, 2, 3, 5},
		{0, 1, 2, 3, 4, 6},
		{0, 1, 2, 3, 4, 6, 7},
		{0, 1, 2, 3, 4, 6, 8},
		{0, 1, 2, 3, 4, 6, 8, 9},
		{0, 1, 2, 3, 4, 6, 8, 10},
		{0, 1, 2, 3, 4, 6, 8, 10, 11},
		{0, 1, 2, 3, 4, 6, 8, 9, 12},
		{0, 1, 2, 3, 4, 6, 8, 10, 13},
	} {
		samePath(t, yard(), i, want, api.OK)
	}
}

// The longest path has all elements that a layout may have.
func TestP10_1PathLongest(t *testing.T) {
	l := chain(128)
	var path []int
	for i := range l {
		path = append(path, i)
		samePath(t, l, i, path, api.OK)
	}
}

// P10.2

func TestP10_2Common(t *testing.T) {
	sameCommon(t, example(), 2, 3, 1, api.OK)
	for _, c := range []struct{ i, k, want int }{
		{5, 7, 3}, {5, 13, 3}, {7, 11, 6}, {11, 13, 10}, {12, 13, 8}, {11, 12, 8}, {9, 10, 8}, {4, 5, 3},
		// an element on the path of the other one
		{0, 13, 0}, {3, 13, 3}, {8, 12, 8}, {6, 4, 4}, {10, 13, 10}, {0, 1, 0},
		// an element and itself
		{0, 0, 0}, {3, 3, 3}, {6, 6, 6}, {13, 13, 13},
	} {
		sameCommon(t, yard(), c.i, c.k, c.want, api.OK)
		sameCommon(t, yard(), c.k, c.i, c.want, api.OK)
	}
}

// In a chain, one element of each two is on the path of the other one.
func TestP10_2CommonLongest(t *testing.T) {
	l := chain(128)
	for i := range l {
		for k := range l {
			sameCommon(t, l, i, k, min(i, k), api.OK)
		}
	}
}

func TestP10_2Settings(t *testing.T) {
	sameSettings(t, example(), 3, [][2]int{{1, right}}, api.OK)
	for i, want := range [][][2]int{
		nil,
		nil,
		nil,
		nil, // a switch as the last element
		{{3, right}},
		{{3, left}},
		{{3, right}}, // a switch behind a switch
		{{3, right}, {6, right}},
		{{3, right}, {6, left}},
		{{3, right}, {6, left}, {8, right}},
		{{3, right}, {6, left}, {8, left}},
		{{3, right}, {6, left}, {8, left}, {10, right}},
		{{3, right}, {6, left}, {8, right}},
		{{3, right}, {6, left}, {8, left}, {10, left}},
	} {
		sameSettings(t, yard(), i, want, api.OK)
	}
	for i := range 128 {
		sameSettings(t, chain(128), i, nil, api.OK)
	}
}

// The last track of a comb has the most switches on its path.
func TestP10_2SettingsMost(t *testing.T) {
	for _, side := range []int{left, right} {
		l := comb(32, left+right-side, side)
		var want [][2]int
		for i, x := range l {
			if x.Kind == points {
				want = append(want, [2]int{i, side})
			}
		}
		if len(want) != 31 {
			t.Fatalf("%d switches", len(want))
		}
		sameSettings(t, l, len(l)-1, want, api.OK)
	}
}

// P10.3

func TestP10_3Beyond(t *testing.T) {
	sameBeyond(t, example(), 1, []int{2, 3}, api.OK)
	tracks := []int{5, 7, 11, 12, 13}
	for i, want := range [][]int{
		tracks,
		tracks,
		tracks,
		tracks,
		{7, 11, 12, 13},
		{5},
		{7, 11, 12, 13},
		{7},
		{11, 12, 13},
		{12},
		{11, 13},
		{11},
		{12},
		{13},
	} {
		sameBeyond(t, yard(), i, want, api.OK)
	}
	for i := range 128 {
		sameBeyond(t, chain(128), i, []int{127}, api.OK)
	}
}

// P10.1, P10.2 and P10.3 together

func TestP10SmallLayouts(t *testing.T) {
	number := 0
	for n := 2; n <= 8; n++ {
		eachLayout(n, func(l []api.Element) {
			number++
			sameAsDefined(t, l)
		})
	}
	if number < 1000 {
		t.Errorf("only %d layouts", number)
	}
}

func TestP10LargeLayouts(t *testing.T) {
	for _, l := range [][]api.Element{
		yard(), chain(127), chain(128), comb(31, left, right), comb(32, left, right), comb(32, right, left),
		long(127, 32), long(128, 32), long(128, 31), long(128, 2),
	} {
		sameAsDefined(t, l)
	}
	if l := long(128, 32); len(l) != api.MaxElement || len(allOf(l).tracks) != api.MaxTracks {
		t.Errorf("%d elements, %v", len(l), allOf(l).tracks)
	}
}

func TestP10RandomLayouts(t *testing.T) {
	r := random(1)
	for n := range 1000 {
		sameAsDefined(t, randomLayout(r, 2+n%30))
	}
	for n := 32; n <= api.MaxElement; n += 12 {
		sameAsDefined(t, randomLayout(r, n))
	}
}

// What the chapter says under Consequences.
func TestP10Consequences(t *testing.T) {
	r := random(2)
	for n := 2; n <= api.MaxElement; n++ {
		l := randomLayout(r, n)
		tracks, _ := tree.Tracks(l)
		sameBeyond(t, l, 0, tracks, api.OK)
		for i, x := range l {
			path, _ := tree.Path(l, i)
			if len(path) == 0 || path[0] != 0 || !slices.IsSorted(path) {
				t.Errorf("Path(%d) of %+v: %v", i, l, path)
			}
			if x.Kind == points {
				sidesAreDisjoint(t, l, i)
			}
		}
		for _, i := range tracks {
			for _, k := range tracks {
				if i != k {
					settingsPart(t, l, i, k)
				}
			}
		}
	}
}

// sidesAreDisjoint checks that the tracks beyond a switch are those beyond its two sides, each of them once.
func sidesAreDisjoint(t *testing.T, l []api.Element, i int) {
	t.Helper()
	var sides []int
	for k, x := range l {
		if x.Parent == i {
			beyond, _ := tree.Beyond(l, k)
			sides = append(sides, beyond...)
		}
	}
	slices.Sort(sides)
	sameBeyond(t, l, i, sides, api.OK)
}

// settingsPart checks that the last common element of two tracks is the switch at which their settings part.
func settingsPart(t *testing.T, l []api.Element, i, k int) {
	t.Helper()
	a, _ := tree.Settings(l, i)
	b, _ := tree.Settings(l, k)
	n := 0
	for n < min(len(a), len(b)) && a[n] == b[n] {
		n++
	}
	if n == min(len(a), len(b)) || a[n][0] != b[n][0] || l[a[n][0]].Kind != points {
		t.Fatalf("Settings of %d and %d of %+v: %v and %v", i, k, l, a, b)
	}
	sameCommon(t, l, i, k, a[n][0], api.OK)
}

// Errors

func TestP10ErrRange(t *testing.T) {
	for _, l := range [][]api.Element{example(), yard(), chain(2), chain(128), comb(32, left, right), long(128, 32)} {
		for _, i := range append(integers(), len(l)-1, len(l), len(l)+1) {
			if 0 <= i && i < len(l) {
				continue
			}
			sameErrors(t, l, i, api.ErrRange)
			sameCommon(t, l, i, len(l)-1, 0, api.ErrRange)
			sameCommon(t, l, len(l)-1, i, 0, api.ErrRange)
			sameCommon(t, l, i, -1, 0, api.ErrRange)
			sameCommon(t, l, len(l), i, 0, api.ErrRange)
		}
	}
}

// Each error of layout.Valid, also for indexes out of range.
func TestP10ErrorsOfLayout(t *testing.T) {
	with := func(i int, change func(x *api.Element)) []api.Element {
		l := yard()
		change(&l[i])
		return l
	}
	for _, c := range []struct {
		l    []api.Element
		want api.Errno
	}{
		{nil, api.ErrMissing},
		{[]api.Element{}, api.ErrMissing},
		{yard()[:1], api.ErrMissing},
		{yard()[:13], api.ErrMissing},
		{chain(129), api.ErrLimit},
		{make([]api.Element, 129), api.ErrLimit},
		{make([]api.Element, 128), api.ErrInvalid},
		{comb(33, right, left), api.ErrLimit},
		{yard()[1:], api.ErrInvalid},
		{with(0, func(x *api.Element) { x.Parent = 0 }), api.ErrInvalid},
		{with(13, func(x *api.Element) { x.Length = 0 }), api.ErrInvalid},
		{with(4, func(x *api.Element) { x.Kind = math.MaxInt }), api.ErrInvalid},
		{with(13, func(x *api.Element) { x.Name = "c" }), api.ErrDuplicate},
		{with(3, func(x *api.Element) { x.Parent = 3 }), api.ErrOrder},
		{with(3, func(x *api.Element) { x.Parent = 13 }), api.ErrOrder},
		{with(3, func(x *api.Element) { x.Parent = -1 }), api.ErrOrder},
		{with(3, func(x *api.Element) { x.Parent = math.MinInt }), api.ErrOrder},
		{with(13, func(x *api.Element) { x.Parent = 5 }), api.ErrConflict},
		{with(13, func(x *api.Element) { x.Side = right }), api.ErrConflict},
		{with(12, func(x *api.Element) { x.Side = left }), api.ErrConflict},
	} {
		sameTracks(t, c.l, nil, c.want)
		for _, i := range append(integers(), len(c.l)) {
			sameErrors(t, c.l, i, c.want)
		}
		sameCommon(t, c.l, -1, len(c.l), 0, c.want)
	}
}

// Layouts with numbers replaced at random: a wrong one gives its error, before that of any index.
func TestP10SpoiltLayouts(t *testing.T) {
	r := random(3)
	numbers := integers()
	wrong := 0
	for n := range 5000 {
		l := randomLayout(r, 2+n%40)
		for range 1 + r.IntN(2) {
			x := &l[r.IntN(len(l))]
			parts := []*int{&x.Kind, &x.Parent, &x.Side}
			*parts[r.IntN(len(parts))] = numbers[r.IntN(len(numbers))]
		}
		e := errorOf(l)
		if e == api.OK {
			sameAsDefined(t, l)
			continue
		}
		wrong++
		sameTracks(t, l, nil, e)
		for _, i := range []int{0, len(l) - 1, r.IntN(len(l)), numbers[r.IntN(len(numbers))]} {
			sameErrors(t, l, i, e)
		}
	}
	if wrong < 2500 {
		t.Errorf("only %d lists are wrong", wrong)
	}
}

// Writing into a result, up to its capacity, changes no other result and no layout.
func TestP10NewMemory(t *testing.T) {
	lists := []func(l []api.Element, i int) ([]int, api.Errno){
		func(l []api.Element, _ int) ([]int, api.Errno) { return tree.Tracks(l) },
		tree.Path,
		tree.Beyond,
	}
	for _, l := range [][]api.Element{yard(), chain(128), comb(32, left, right)} {
		for i := range l {
			for _, f := range lists {
				separate(t, l, i, f)
			}
			separate(t, l, i, tree.Settings)
		}
		sameAsDefined(t, l)
	}
}

// separate checks that two results of one call share no memory.
func separate[T comparable](t *testing.T, l []api.Element, i int, f func(l []api.Element, i int) ([]T, api.Errno)) {
	t.Helper()
	before := slices.Clone(l)
	first, _ := f(l, i)
	want := slices.Clone(first)
	second, _ := f(l, i)
	clear(first[:cap(first)])
	third, _ := f(l, i)
	if !slices.Equal(second, want) || !slices.Equal(third, want) || !slices.Equal(l, before) {
		t.Errorf("element %d: %v has become %v and %v", i, want, second, third)
	}
}
