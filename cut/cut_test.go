package cut_test

import (
	"math"
	"math/rand/v2"
	"slices"
	"testing"

	"humpyard/api"
	"humpyard/cut"
)

func rulesOf(wagons, axles, length int) api.CutRules {
	return api.CutRules{Wagons: wagons, Axles: axles, Length: length}
}

// wide are the rules that permit most, and narrow those that permit least.
func wide() api.CutRules   { return rulesOf(32, 128, 8000) }
func narrow() api.CutRules { return rulesOf(1, 2, 80) }

// wagon is a wagon that is valid under all valid rules.
func wagon(track int) api.Pushed {
	return api.Pushed{Length: 80, Axles: 2, Mass: 300, Track: track}
}

func gentle(track int) api.Pushed {
	w := wagon(track)
	w.Gentle = true
	return w
}

// to returns one wagon for each track.
func to(tracks ...int) []api.Pushed {
	var l []api.Pushed
	for _, track := range tracks {
		l = append(l, wagon(track))
	}
	return l
}

// sized returns wagons to one track, each with its length and axles.
func sized(sizes ...[2]int) []api.Pushed {
	var l []api.Pushed
	for _, x := range sizes {
		l = append(l, api.Pushed{Length: x[0], Axles: x[1], Mass: 1, Track: 7})
	}
	return l
}

// of returns n equal wagons.
func of(n int, w api.Pushed) []api.Pushed { return slices.Repeat([]api.Pushed{w}, n) }

// ends returns the cuts to one track that end behind these wagons.
func ends(track int, l ...int) []api.Cut {
	var cuts []api.Cut
	from := 0
	for _, to := range l {
		cuts = append(cuts, api.Cut{From: from, To: to, Track: track})
		from = to
	}
	return cuts
}

// stays returns a function that checks that a list has stayed as it was.
func stays[E comparable](t *testing.T, call string, l []E) func() {
	t.Helper()
	before := slices.Clone(l)
	return func() {
		t.Helper()
		if !slices.Equal(l, before) {
			t.Errorf("%s has changed %v to %v", call, before, l)
		}
	}
}

func sameValid(t *testing.T, l []api.Pushed, r api.CutRules, want api.Errno) {
	t.Helper()
	same := stays(t, "Valid", l)
	if e := cut.Valid(l, r); e != want {
		t.Errorf("Valid(%+v, %+v): error %d; want %d", l, r, e, want)
	}
	same()
}

func samePermitted(t *testing.T, l []api.Pushed, r api.CutRules, from, to int, want bool, wantError api.Errno) {
	t.Helper()
	same := stays(t, "Permitted", l)
	if is, e := cut.Permitted(l, r, from, to); is != want || e != wantError {
		t.Errorf("Permitted(%+v, %+v, %d, %d): %t, error %d; want %t, error %d", l, r, from, to, is, e, want, wantError)
	}
	same()
}

func sameForm(t *testing.T, l []api.Pushed, r api.CutRules, want []api.Cut, wantError api.Errno) {
	t.Helper()
	same := stays(t, "Form", l)
	if cuts, e := cut.Form(l, r); !slices.Equal(cuts, want) || e != wantError {
		t.Errorf("Form(%+v, %+v): %+v, error %d; want %+v, error %d", l, r, cuts, e, want, wantError)
	}
	same()
}

func sameWitness(t *testing.T, l []api.Pushed, r api.CutRules, want []int, wantError api.Errno) {
	t.Helper()
	same := stays(t, "Witness", l)
	if first, e := cut.Witness(l, r); !slices.Equal(first, want) || e != wantError {
		t.Errorf("Witness(%+v, %+v): %v, error %d; want %v, error %d", l, r, first, e, want, wantError)
	}
	same()
}

func sameCheck(t *testing.T, l []api.Pushed, r api.CutRules, cuts []api.Cut, want bool, wantError api.Errno) {
	t.Helper()
	same, sameCuts := stays(t, "Check", l), stays(t, "Check", cuts)
	if is, e := cut.Check(l, r, cuts); is != want || e != wantError {
		t.Errorf("Check(%+v, %+v, %+v): %t, error %d; want %t, error %d", l, r, cuts, is, e, want, wantError)
	}
	same()
	sameCuts()
}

// agrees checks every function against the definitions, Permitted for all indexes and some that denote no wagon, and Check for the cuts of Form, which it returns.
func agrees(t *testing.T, l []api.Pushed, r api.CutRules) []api.Cut {
	t.Helper()
	sameValid(t, l, r, validOf(l, r))
	agreesOnGroups(t, l, r)
	cuts, e := formOf(l, r)
	first, _ := witnessOf(l, r)
	sameForm(t, l, r, cuts, e)
	sameWitness(t, l, r, first, e)
	sameCheck(t, l, r, cuts, e == api.OK, e)
	return cuts
}

func agreesOnGroups(t *testing.T, l []api.Pushed, r api.CutRules) {
	t.Helper()
	same := stays(t, "Permitted", l)
	for from := -2; from <= len(l)+2; from++ {
		for to := -2; to <= len(l)+2; to++ {
			want, wantError := permittedOf(l, r, from, to)
			if is, e := cut.Permitted(l, r, from, to); is != want || e != wantError {
				t.Errorf("Permitted(%+v, %+v, %d, %d): %t, error %d; want %t, error %d", l, r, from, to, is, e, want, wantError)
			}
		}
	}
	same()
}

// P18.1

func TestP18_1Rules(t *testing.T) {
	for _, r := range []api.CutRules{
		narrow(), wide(), rulesOf(1, 128, 8000), rulesOf(32, 2, 8000), rulesOf(32, 128, 80), rulesOf(5, 20, 700),
	} {
		sameValid(t, nil, r, api.OK)
		sameValid(t, to(0, 0, 3), r, api.OK)
	}
	for _, r := range wrongRules() {
		sameValid(t, nil, r, api.ErrRange)
		sameValid(t, to(0, 0, 3), r, api.ErrRange)
	}
}

// wrongRules returns rules with one number that is out of its range.
func wrongRules() []api.CutRules {
	l := []api.CutRules{{}}
	for _, n := range []int{0, -1, 33, 128, math.MinInt, math.MaxInt} {
		l = append(l, rulesOf(n, 128, 8000), rulesOf(n, 2, 80))
	}
	for _, n := range []int{1, 0, -1, 129, 8000, math.MinInt, math.MaxInt} {
		l = append(l, rulesOf(32, n, 8000), rulesOf(1, n, 80))
	}
	for _, n := range []int{79, 0, -1, 8001, math.MinInt, math.MaxInt} {
		l = append(l, rulesOf(32, 128, n), rulesOf(1, 2, n))
	}
	return l
}

func TestP18_1Wagons(t *testing.T) {
	for _, w := range []api.Pushed{
		{Length: 1, Axles: 1, Mass: 1},
		{Length: maxLength, Axles: maxAxles, Mass: maxMass, Track: maxTracks - 1},
		{Length: maxLength, Axles: maxAxles, Mass: maxMass, Track: maxTracks - 1, Gentle: true},
		{Length: maxLength, Axles: 1, Mass: 1}, {Length: 1, Axles: maxAxles, Mass: 1}, {Length: 1, Axles: 1, Mass: maxMass}, {Length: 1, Axles: 1, Mass: 1, Track: maxTracks - 1},
	} {
		sameValid(t, []api.Pushed{w}, wide(), api.OK)
		sameValid(t, of(maxWagons, w), wide(), api.OK)
	}
	for _, w := range wrongWagons() {
		for _, n := range []int{0, 1, maxWagons - 1} {
			l := of(n+1, wagon(1))
			l[n] = w
			sameValid(t, l, wide(), api.ErrInvalid)
			slices.Reverse(l)
			sameValid(t, l, wide(), api.ErrInvalid)
		}
	}
}

// wrongWagons returns wagons with one number that is out of its range under all rules.
func wrongWagons() []api.Pushed {
	l := []api.Pushed{{}}
	for _, n := range []int{0, -1, math.MinInt, math.MaxInt} {
		l = append(l,
			api.Pushed{Length: n, Axles: 1, Mass: 1},
			api.Pushed{Length: 1, Axles: n, Mass: 1},
			api.Pushed{Length: 1, Axles: 1, Mass: n})
	}
	for _, n := range []int{-1, maxTracks, math.MinInt, math.MaxInt} {
		l = append(l, api.Pushed{Length: 1, Axles: 1, Mass: 1, Track: n})
	}
	for _, g := range []bool{false, true} {
		l = append(l,
			api.Pushed{Length: maxLength + 1, Axles: 1, Mass: 1, Gentle: g},
			api.Pushed{Length: 1, Axles: maxAxles + 1, Mass: 1, Gentle: g},
			api.Pushed{Length: 1, Axles: 1, Mass: maxMass + 1, Gentle: g},
			api.Pushed{Length: 1, Axles: 1, Mass: 1, Track: maxTracks, Gentle: g})
	}
	return l
}

// A wagon is not valid if it alone exceeds the rules.
func TestP18_1WagonsWithinRules(t *testing.T) {
	for length := 80; length <= maxLength; length++ {
		sameValid(t, sized([2]int{length, 2}), rulesOf(1, 2, length), api.OK)
		sameValid(t, sized([2]int{length + 1, 2}), rulesOf(1, 2, length), api.ErrInvalid)
	}
	for axles := 2; axles <= maxAxles; axles++ {
		sameValid(t, sized([2]int{80, axles}), rulesOf(1, axles, 80), api.OK)
		sameValid(t, sized([2]int{80, axles + 1}), rulesOf(1, axles, 80), api.ErrInvalid)
	}
	sameValid(t, sized([2]int{79, 1}, [2]int{80, 2}), narrow(), api.OK)
	sameValid(t, sized([2]int{79, 1}, [2]int{81, 2}), narrow(), api.ErrInvalid)
	sameValid(t, sized([2]int{79, 3}, [2]int{80, 2}), narrow(), api.ErrInvalid)
	// many wagons may exceed the rules together
	sameValid(t, of(maxWagons, wagon(1)), narrow(), api.OK)
}

// wrongCase is a list or rules that are not valid.
type wrongCase struct {
	l []api.Pushed
	r api.CutRules
	e api.Errno
}

func wrongCases() []wrongCase {
	l := []wrongCase{
		{of(maxWagons+1, wagon(1)), wide(), api.ErrLimit},
		{of(maxWagons+1, wagon(1)), narrow(), api.ErrLimit},
		{of(5000, wagon(1)), wide(), api.ErrLimit},
		// too many wagons come before wagons that are not valid
		{make([]api.Pushed, maxWagons+1), wide(), api.ErrLimit},
		{append([]api.Pushed{{}}, of(maxWagons, wagon(1))...), wide(), api.ErrLimit},
		{append(of(maxWagons, wagon(1)), api.Pushed{}), wide(), api.ErrLimit},
		{make([]api.Pushed, maxWagons), wide(), api.ErrInvalid},
		{to(1, 1, -1), wide(), api.ErrInvalid},
		{to(maxTracks, 1), wide(), api.ErrInvalid},
		{sized([2]int{80, 2}, [2]int{81, 2}), narrow(), api.ErrInvalid},
		{sized([2]int{80, 3}, [2]int{80, 2}), narrow(), api.ErrInvalid},
	}
	for _, r := range wrongRules() {
		// wrong rules come before all other errors
		l = append(l,
			wrongCase{nil, r, api.ErrRange},
			wrongCase{to(1, 1), r, api.ErrRange},
			wrongCase{make([]api.Pushed, maxWagons+1), r, api.ErrRange},
			wrongCase{make([]api.Pushed, 2), r, api.ErrRange})
	}
	for _, w := range wrongWagons() {
		l = append(l,
			wrongCase{[]api.Pushed{w}, wide(), api.ErrInvalid},
			wrongCase{append(of(maxWagons-1, wagon(1)), w), wide(), api.ErrInvalid},
			wrongCase{append(of(maxWagons, wagon(1)), w), wide(), api.ErrLimit})
	}
	return l
}

func TestP18_1OrderOfErrors(t *testing.T) {
	for _, c := range wrongCases() {
		sameValid(t, c.l, c.r, c.e)
	}
}

func TestP18_1Permitted(t *testing.T) {
	mixed := []api.Pushed{wagon(1), wagon(1), wagon(1), wagon(2), gentle(2), wagon(2), wagon(2), gentle(2), gentle(2)}
	for _, c := range []struct {
		r        api.CutRules
		from, to int
		want     bool
	}{
		{wide(), 0, 1, true}, {wide(), 0, 3, true}, {wide(), 1, 3, true}, {wide(), 5, 7, true}, {wide(), 3, 4, true},
		// another track
		{wide(), 0, 4, false}, {wide(), 2, 4, false}, {wide(), 0, 9, false},
		// a gentle wagon alone, in front, behind, between, and two of them
		{wide(), 4, 5, true}, {wide(), 7, 8, true}, {wide(), 8, 9, true}, {wide(), 4, 6, false}, {wide(), 3, 5, false}, {wide(), 3, 6, false}, {wide(), 4, 7, false}, {wide(), 7, 9, false}, {wide(), 6, 8, false},
		// no wagon
		{wide(), 0, 0, false}, {wide(), 4, 4, false}, {wide(), 9, 9, false},
		{rulesOf(3, 128, 8000), 0, 3, true}, {rulesOf(2, 128, 8000), 0, 3, false}, {rulesOf(1, 128, 8000), 0, 2, false}, {rulesOf(1, 128, 8000), 2, 3, true},
		{rulesOf(32, 6, 8000), 0, 3, true}, {rulesOf(32, 5, 8000), 0, 3, false}, {rulesOf(32, 4, 8000), 0, 2, true}, {rulesOf(32, 3, 8000), 0, 2, false},
		{rulesOf(32, 128, 240), 0, 3, true}, {rulesOf(32, 128, 239), 0, 3, false}, {rulesOf(32, 128, 160), 5, 7, true}, {rulesOf(32, 128, 159), 5, 7, false},
		{narrow(), 4, 5, true}, {narrow(), 8, 9, true},
	} {
		samePermitted(t, mixed, c.r, c.from, c.to, c.want, api.OK)
	}
	samePermitted(t, nil, narrow(), 0, 0, false, api.OK)
	samePermitted(t, []api.Pushed{}, narrow(), 0, 0, false, api.OK)
	// neither the masses nor the wagons around them count
	heavy := wagon(1)
	heavy.Mass = maxMass
	samePermitted(t, []api.Pushed{gentle(1), heavy, wagon(1), heavy, gentle(1)}, rulesOf(3, 6, 240), 1, 4, true, api.OK)
	samePermitted(t, []api.Pushed{wagon(2), heavy, wagon(1), heavy, wagon(2)}, rulesOf(3, 6, 240), 1, 4, true, api.OK)
}

// As much as the widest rules permit, and one more.
func TestP18_1PermittedLimits(t *testing.T) {
	small := api.Pushed{Length: 1, Axles: 1, Mass: 1, Track: maxTracks - 1}
	samePermitted(t, of(maxWagons, small), wide(), 64, 96, true, api.OK)
	samePermitted(t, of(maxWagons, small), wide(), 63, 96, false, api.OK)
	many := api.Pushed{Length: 1, Axles: maxAxles, Mass: 1}
	samePermitted(t, of(maxWagons, many), wide(), 0, 16, true, api.OK)
	samePermitted(t, of(maxWagons, many), wide(), 0, 17, false, api.OK)
	long := api.Pushed{Length: maxLength, Axles: 1, Mass: 1}
	samePermitted(t, of(maxWagons, long), wide(), 5, 25, true, api.OK)
	samePermitted(t, of(maxWagons, long), wide(), 5, 26, false, api.OK)
	long.Length--
	samePermitted(t, append(of(20, long), api.Pushed{Length: 20, Axles: 1, Mass: 1}), wide(), 0, 21, true, api.OK)
	samePermitted(t, append(of(20, long), api.Pushed{Length: 21, Axles: 1, Mass: 1}), wide(), 0, 21, false, api.OK)
}

func TestP18_1PermittedErrors(t *testing.T) {
	wrong := [][2]int{{-1, 0}, {-1, -1}, {0, -1}, {1, 0}, {0, 4}, {3, 4}, {4, 4}, {4, 3}, {math.MinInt, math.MinInt}, {math.MinInt, math.MaxInt}, {math.MaxInt, math.MaxInt}, {math.MaxInt, math.MinInt}, {0, math.MaxInt}, {math.MinInt, 3}, {math.MaxInt, 3}, {3, math.MinInt}}
	for _, x := range wrong {
		samePermitted(t, to(1, 1, 1), wide(), x[0], x[1], false, api.ErrRange)
		samePermitted(t, []api.Pushed{gentle(1), gentle(1), gentle(1)}, narrow(), x[0], x[1], false, api.ErrRange)
	}
	samePermitted(t, nil, wide(), 0, 1, false, api.ErrRange)
	samePermitted(t, nil, wide(), -1, 0, false, api.ErrRange)
	samePermitted(t, nil, wide(), 1, 1, false, api.ErrRange)
	// the error of Valid comes first
	for _, c := range wrongCases() {
		samePermitted(t, c.l, c.r, 0, min(1, len(c.l)), false, c.e)
		for _, x := range wrong {
			samePermitted(t, c.l, c.r, x[0], x[1], false, c.e)
		}
	}
}

// P18.2

func TestP18_2Form(t *testing.T) {
	for _, c := range []struct {
		l    []api.Pushed
		r    api.CutRules
		want []api.Cut
	}{
		{nil, wide(), nil},
		{[]api.Pushed{}, narrow(), nil},
		{to(1, 1, 2, 2, 2), rulesOf(2, 128, 8000), []api.Cut{{From: 0, To: 2, Track: 1}, {From: 2, To: 4, Track: 2}, {From: 4, To: 5, Track: 2}}},
		{[]api.Pushed{wagon(1), gentle(1), wagon(1)}, wide(), []api.Cut{{From: 0, To: 1, Track: 1}, {From: 1, To: 2, Track: 1, Engine: true}, {From: 2, To: 3, Track: 1}}},
		{[]api.Pushed{gentle(0), gentle(0)}, wide(), []api.Cut{{From: 0, To: 1, Engine: true}, {From: 1, To: 2, Engine: true}}},
		{[]api.Pushed{gentle(3)}, narrow(), []api.Cut{{From: 0, To: 1, Track: 3, Engine: true}}},
		{to(0), narrow(), []api.Cut{{From: 0, To: 1}}},
		{to(maxTracks - 1), narrow(), []api.Cut{{From: 0, To: 1, Track: maxTracks - 1}}},
		{to(4, 4, 4), narrow(), ends(4, 1, 2, 3)},
		{to(1, 2, 1), wide(), []api.Cut{{From: 0, To: 1, Track: 1}, {From: 1, To: 2, Track: 2}, {From: 2, To: 3, Track: 1}}},
		{to(4, 4, 4, 4, 4), rulesOf(2, 128, 8000), ends(4, 2, 4, 5)},
		{to(4, 4, 4, 4, 4), rulesOf(32, 7, 8000), ends(4, 3, 5)},
		{to(4, 4, 4, 4, 4), rulesOf(32, 128, 320), ends(4, 4, 5)},
		{to(4, 4, 4, 4, 4), rulesOf(32, 128, 319), ends(4, 3, 5)},
		// a wagon that does not fit begins the next cut, although a later one would have fitted
		{sized([2]int{50, 1}, [2]int{60, 1}, [2]int{20, 1}, [2]int{80, 1}), rulesOf(32, 128, 100), ends(7, 1, 3, 4)},
		{sized([2]int{1, 4}, [2]int{1, 5}, [2]int{1, 4}, [2]int{1, 8}), rulesOf(32, 9, 8000), ends(7, 2, 3, 4)},
		// from the left, and not from the right
		{sized([2]int{40, 2}, [2]int{40, 2}, [2]int{60, 2}, [2]int{60, 2}), rulesOf(32, 128, 120), ends(7, 2, 4)},
		{sized([2]int{60, 2}, [2]int{60, 2}, [2]int{60, 2}, [2]int{60, 2}, [2]int{60, 2}), rulesOf(3, 128, 8000), ends(7, 3, 5)},
	} {
		sameForm(t, c.l, c.r, c.want, api.OK)
		agrees(t, c.l, c.r)
	}
}

func TestP18_2Witness(t *testing.T) {
	for _, c := range []struct {
		l    []api.Pushed
		r    api.CutRules
		want []int
	}{
		{nil, wide(), nil},
		{[]api.Pushed{}, narrow(), nil},
		{to(9), narrow(), []int{0}},
		{to(1, 1, 2, 2, 2), rulesOf(2, 128, 8000), []int{0, 2, 4}},
		{[]api.Pushed{wagon(1), gentle(1), wagon(1)}, wide(), []int{0, 1, 2}},
		{to(4, 4, 4, 4, 4), rulesOf(32, 7, 8000), []int{0, 3}},
		{to(4, 4, 4, 4, 4), rulesOf(32, 128, 320), []int{0, 4}},
	} {
		sameWitness(t, c.l, c.r, c.want, api.OK)
	}
}

// As many wagons as possible, in as many and as few cuts as possible.
func TestP18_2Limits(t *testing.T) {
	small := api.Pushed{Length: 1, Axles: 1, Mass: 1, Track: maxTracks - 1}
	sameForm(t, of(maxWagons, small), wide(), ends(maxTracks-1, 32, 64, 96), api.OK)
	sameWitness(t, of(maxWagons, small), wide(), []int{0, 32, 64}, api.OK)
	big := api.Pushed{Length: maxLength, Axles: maxAxles, Mass: maxMass}
	sameForm(t, of(maxWagons, big), wide(), ends(0, 16, 32, 48, 64, 80, 96), api.OK)
	var singles []int
	for i := range maxWagons {
		singles = append(singles, i)
	}
	sameWitness(t, of(maxWagons, big), narrowFor(big), singles, api.OK)
	for _, l := range [][]api.Pushed{of(maxWagons, small), of(maxWagons, big), of(maxWagons, gentle(5)), of(maxWagons, wagon(0))} {
		agrees(t, l, wide())
		agrees(t, l, narrowFor(l[0]))
		agrees(t, l, rulesOf(32, maxAxles, maxLength))
	}
}

// narrowFor returns the rules that permit least, but permit this wagon.
func narrowFor(w api.Pushed) api.CutRules {
	return rulesOf(1, max(2, w.Axles), max(80, w.Length))
}

func TestP18_2Check(t *testing.T) {
	l, r := []api.Pushed{wagon(1), wagon(1), gentle(1), wagon(2)}, rulesOf(2, 128, 8000)
	a, b, c := api.Cut{From: 0, To: 2, Track: 1}, api.Cut{From: 2, To: 3, Track: 1, Engine: true}, api.Cut{From: 3, To: 4, Track: 2}
	a1, a2 := api.Cut{From: 0, To: 1, Track: 1}, api.Cut{From: 1, To: 2, Track: 1}
	for _, x := range []struct {
		cuts []api.Cut
		want bool
	}{
		{[]api.Cut{a, b, c}, true},
		// more cuts than necessary
		{[]api.Cut{a1, a2, b, c}, true},
		// a cut that is missing, in each place
		{nil, false}, {[]api.Cut{b, c}, false}, {[]api.Cut{a, c}, false}, {[]api.Cut{a, b}, false}, {[]api.Cut{a}, false}, {[]api.Cut{a2, b, c}, false}, {[]api.Cut{a1, b, c}, false},
		// a cut twice, in another order, or overlapping
		{[]api.Cut{a, a, b, c}, false}, {[]api.Cut{a, b, b, c}, false}, {[]api.Cut{a, b, c, c}, false}, {[]api.Cut{a, c, b}, false}, {[]api.Cut{c, b, a}, false}, {[]api.Cut{a, a2, b, c}, false}, {[]api.Cut{a1, a, b, c}, false},
		// a cut without wagons, in each place
		{[]api.Cut{{Track: 1}, a, b, c}, false}, {[]api.Cut{{}, a, b, c}, false}, {[]api.Cut{a, {From: 2, To: 2, Track: 1}, b, c}, false}, {[]api.Cut{a, {From: 2, To: 2, Track: 1, Engine: true}, b, c}, false}, {[]api.Cut{a, b, c, {From: 4, To: 4, Track: 2}}, false}, {[]api.Cut{a, b, c, {From: 4, To: 4}}, false}, {[]api.Cut{a, b, c, {}}, false},
		// a cut that goes back
		{[]api.Cut{a, {From: 2, To: 1, Track: 1}, a2, b, c}, false}, {[]api.Cut{{From: 0, To: -1, Track: 1}, a, b, c}, false}, {[]api.Cut{a, b, c, {From: 4, To: 3, Track: 2}, c}, false},
		// wagons that may not be one cut
		{[]api.Cut{a, {From: 2, To: 4, Track: 1, Engine: true}}, false}, {[]api.Cut{a, {From: 2, To: 4, Track: 2, Engine: true}}, false}, {[]api.Cut{a, {From: 2, To: 4, Track: 2}}, false}, {[]api.Cut{a1, {From: 1, To: 3, Track: 1, Engine: true}, c}, false}, {[]api.Cut{a1, {From: 1, To: 3, Track: 1}, c}, false}, {[]api.Cut{{From: 0, To: 4, Track: 1}}, false},
		// a wagon that is not there
		{[]api.Cut{a, b, {From: 3, To: 5, Track: 2}}, false}, {[]api.Cut{a, b, c, {From: 4, To: 5, Track: 2}}, false}, {[]api.Cut{a, b, c, {From: 5, To: 6}}, false}, {[]api.Cut{{From: -1, To: 2, Track: 1}, b, c}, false}, {[]api.Cut{{From: -1, To: 0, Track: 1}, a, b, c}, false},
		{[]api.Cut{{From: math.MinInt, To: 2, Track: 1}, b, c}, false}, {[]api.Cut{{To: math.MaxInt, Track: 1}}, false}, {[]api.Cut{{To: math.MinInt, Track: 1}}, false}, {[]api.Cut{a, b, {From: 3, To: math.MaxInt, Track: 2}}, false}, {[]api.Cut{a, b, c, {From: math.MaxInt, To: math.MinInt}}, false}, {[]api.Cut{a, {From: math.MaxInt, To: 3, Track: 1, Engine: true}, c}, false},
		// another track
		{[]api.Cut{{From: 0, To: 2, Track: 2}, b, c}, false}, {[]api.Cut{{From: 0, To: 2}, b, c}, false}, {[]api.Cut{a, {From: 2, To: 3, Track: 2, Engine: true}, c}, false}, {[]api.Cut{a, b, {From: 3, To: 4, Track: 1}}, false}, {[]api.Cut{a, b, {From: 3, To: 4, Track: -2}}, false}, {[]api.Cut{a, b, {From: 3, To: 4, Track: math.MaxInt}}, false},
		// an engine too many, and one that is missing
		{[]api.Cut{{From: 0, To: 2, Track: 1, Engine: true}, b, c}, false}, {[]api.Cut{a, {From: 2, To: 3, Track: 1}, c}, false}, {[]api.Cut{a, b, {From: 3, To: 4, Track: 2, Engine: true}}, false},
		{slices.Repeat([]api.Cut{a1}, 5000), false}, {make([]api.Cut, 5000), false},
	} {
		sameCheck(t, l, r, x.cuts, x.want, api.OK)
		sameCheck(t, l, r, x.cuts, divides(l, r, x.cuts), api.OK)
	}
	// rules under which the cut a is too large
	for _, narrower := range []api.CutRules{rulesOf(1, 128, 8000), rulesOf(2, 3, 8000), rulesOf(2, 128, 159)} {
		sameCheck(t, l, narrower, []api.Cut{a, b, c}, false, api.OK)
		sameCheck(t, l, narrower, []api.Cut{a1, a2, b, c}, true, api.OK)
	}
	sameCheck(t, l, rulesOf(2, 4, 160), []api.Cut{a, b, c}, true, api.OK)
}

func TestP18_2CheckOfNoWagons(t *testing.T) {
	for _, l := range [][]api.Pushed{nil, {}} {
		sameCheck(t, l, narrow(), nil, true, api.OK)
		sameCheck(t, l, narrow(), []api.Cut{}, true, api.OK)
		sameCheck(t, l, narrow(), []api.Cut{{}}, false, api.OK)
		sameCheck(t, l, narrow(), []api.Cut{{To: 1}}, false, api.OK)
		sameCheck(t, l, narrow(), []api.Cut{{From: -1}}, false, api.OK)
	}
}

func TestP18_2Errors(t *testing.T) {
	for _, c := range wrongCases() {
		sameForm(t, c.l, c.r, nil, c.e)
		sameWitness(t, c.l, c.r, nil, c.e)
		var cuts []api.Cut
		for i, w := range c.l {
			cuts = append(cuts, api.Cut{From: i, To: i + 1, Track: w.Track, Engine: w.Gentle})
		}
		for _, x := range [][]api.Cut{cuts, nil, {{}}, {{From: math.MinInt, To: math.MaxInt}}} {
			sameCheck(t, c.l, c.r, x, false, c.e)
		}
	}
}

// smallWagons returns wagons that differ in what decides over cuts.
func smallWagons() []api.Pushed {
	return []api.Pushed{
		{Length: 40, Axles: 1, Mass: 1}, {Length: 80, Axles: 1, Mass: 2}, {Length: 40, Axles: 2, Mass: 3},
		{Length: 40, Axles: 1, Mass: 4, Track: 1}, {Length: 40, Axles: 1, Mass: 5, Gentle: true},
	}
}

func smallRules() []api.CutRules {
	return []api.CutRules{
		wide(), narrow(), rulesOf(2, 128, 8000), rulesOf(3, 128, 8000), rulesOf(32, 2, 8000), rulesOf(32, 3, 8000), rulesOf(32, 128, 80), rulesOf(32, 128, 119), rulesOf(32, 128, 120), rulesOf(3, 4, 160),
	}
}

// All short lists: every function does what chapter 18 says, all divisions are accepted, and none has fewer cuts than Form.
func TestP18SmallLists(t *testing.T) {
	eachList(4, smallWagons(), func(l []api.Pushed) {
		for _, r := range smallRules() {
			cuts := agrees(t, l, r)
			for _, d := range divisions(l, r, 0) {
				sameCheck(t, l, r, d, true, api.OK)
				if len(d) < len(cuts) {
					t.Errorf("Form(%+v, %+v): %d cuts, but %+v divides the wagons", l, r, len(cuts), d)
				}
			}
		}
	})
}

// All short lists of cuts for all short lists of wagons.
func TestP18_2SmallCuts(t *testing.T) {
	var elements []api.Cut
	for from := range 4 {
		for to := range 4 {
			for track := range 2 {
				elements = append(elements, api.Cut{From: from, To: to, Track: track}, api.Cut{From: from, To: to, Track: track, Engine: true})
			}
		}
	}
	accepted := 0
	eachList(2, elements, func(cuts []api.Cut) {
		eachList(3, smallWagons(), func(l []api.Pushed) {
			want := divides(l, wide(), cuts)
			sameCheck(t, l, wide(), cuts, want, api.OK)
			if want {
				accepted++
			}
		})
	})
	if accepted < 50 {
		t.Errorf("only %d accepted", accepted)
	}
}

func TestP18RandomLists(t *testing.T) {
	r := random(1)
	for n := range maxWagons + 1 {
		rules := randomRules(r)
		l := randomWagons(r, n, rules)
		agrees(t, l, rules)
		for range 10 {
			sameCheck(t, l, rules, randomCuts(r, l, rules), true, api.OK)
		}
	}
}

// The consequences that chapter 18 names: the fewest cuts, wagons that may not be in one cut, and the cuts in front of a cut and from it on.
func TestP18_2Consequences(t *testing.T) {
	r := random(2)
	for n := range maxWagons + 1 {
		rules := randomRules(r)
		l := randomWagons(r, n, rules)
		cuts, _ := cut.Form(l, rules)
		if least := fewest(l, rules); len(cuts) != least {
			t.Errorf("Form(%+v, %+v): %d cuts; want %d", l, rules, len(cuts), least)
		}
		first, _ := cut.Witness(l, rules)
		for i, from := range first {
			for _, to := range first[i+1:] {
				samePermitted(t, l, rules, from, to+1, false, api.OK)
			}
		}
		for i, c := range cuts {
			sameForm(t, l[:c.From], rules, cuts[:i], api.OK)
			sameForm(t, l[c.From:], rules, moved(cuts[i:], -c.From), api.OK)
		}
	}
}

// moved returns the cuts of wagons whose indexes are greater by n.
func moved(cuts []api.Cut, n int) []api.Cut {
	var l []api.Cut
	for _, c := range cuts {
		c.From, c.To = c.From+n, c.To+n
		l = append(l, c)
	}
	return l
}

// Lists with one wagon or one rule that is not valid, or too many wagons.
func TestP18SpoiltLists(t *testing.T) {
	r := random(3)
	counts := map[api.Errno]int{}
	for range 600 {
		rules := randomRules(r)
		l := randomWagons(r, 1+r.IntN(8), rules)
		w, n := &l[r.IntN(len(l))], []int{-1, 0, 1, 33, 79, 80, 81, 401, 2001, 8001, math.MinInt, math.MaxInt}[r.IntN(12)]
		switch r.IntN(8) {
		case 0:
			w.Length = n
		case 1:
			w.Axles = n
		case 2:
			w.Mass = n
		case 3:
			w.Track = n
		case 4:
			rules.Wagons = n
		case 5:
			rules.Axles = n
		case 6:
			rules.Length = n
		default:
			l = slices.Repeat(l, 1+maxWagons/len(l))
		}
		agrees(t, l, rules)
		counts[validOf(l, rules)]++
	}
	if len(counts) != 4 {
		t.Errorf("%v", counts)
	}
	for e, count := range counts {
		if count < 50 {
			t.Errorf("only %d of error %d", count, e)
		}
	}
}

// Divisions of random wagons with one number replaced, or with one cut left out, doubled, exchanged, parted or joined.
func TestP18_2SpoiltCuts(t *testing.T) {
	r := random(4)
	counts := map[bool]int{}
	for range 5000 {
		rules := randomRules(r)
		l := randomWagons(r, 1+r.IntN(maxWagons), rules)
		cuts := spoilt(r, randomCuts(r, l, rules))
		want := divides(l, rules, cuts)
		sameCheck(t, l, rules, cuts, want, api.OK)
		counts[want]++
	}
	if counts[true] < 200 || counts[false] < 2000 {
		t.Errorf("%v", counts)
	}
}

// spoilt returns cuts that are changed in one place.
func spoilt(r *rand.Rand, cuts []api.Cut) []api.Cut {
	n, m := r.IntN(len(cuts)), r.IntN(len(cuts))
	c := &cuts[n]
	switch r.IntN(9) {
	case 0:
		c.From += r.IntN(5) - 2
	case 1:
		c.To += r.IntN(5) - 2
	case 2:
		c.Track = r.IntN(maxTracks)
	case 3:
		c.Engine = !c.Engine
	case 4:
		return slices.Delete(cuts, n, n+1)
	case 5:
		return slices.Insert(cuts, n, *c)
	case 6:
		cuts[n], cuts[m] = cuts[m], cuts[n]
	case 7:
		rest := *c
		rest.From++
		c.To = rest.From
		return slices.Insert(cuts, n+1, rest)
	default:
		if n+1 < len(cuts) {
			c.To = cuts[n+1].To
			return slices.Delete(cuts, n+1, n+2)
		}
	}
	return cuts
}

// Writing into a result, up to its capacity, changes neither another result nor an argument.
func TestP18_2NewMemory(t *testing.T) {
	r := random(5)
	for range 30 {
		rules := randomRules(r)
		l := randomWagons(r, 1+r.IntN(maxWagons), rules)
		cuts, _ := cut.Form(l, rules)
		first, _ := cut.Witness(l, rules)
		secondCuts, _ := cut.Form(l, rules)
		secondFirst, _ := cut.Witness(l, rules)
		same := []func(){stays(t, "writing", l), stays(t, "writing", secondCuts), stays(t, "writing", secondFirst)}
		overwrite(cuts, api.Cut{From: -7, To: -7, Track: -7, Engine: true})
		overwrite(first, -7)
		for _, check := range same {
			check()
		}
		agrees(t, l, rules)
	}
}

// overwrite writes over a list up to its capacity.
func overwrite[E any](l []E, x E) {
	for i := range l[:cap(l)] {
		l[:cap(l)][i] = x
	}
}
