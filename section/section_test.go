package section_test

import (
	"math"
	"slices"
	"testing"

	"humpyard/api"
	"humpyard/section"
)

// triples are borders (Section, Detector, Sense) or pulses (Detector, Time, Direction).
type triples [][3]int

func borders(l triples) []api.Border {
	var out []api.Border
	for _, x := range l {
		out = append(out, api.Border{Section: x[0], Detector: x[1], Sense: x[2]})
	}
	return out
}

func pulses(l triples) []api.Pulse {
	var out []api.Pulse
	for _, x := range l {
		out = append(out, api.Pulse{Detector: x[0], Time: x[1], Direction: x[2]})
	}
	return out
}

// ahead returns pulses of some detectors in the direction 1, at the times 0, 1, 2 and so on.
func ahead(detectors ...int) []api.Pulse {
	var l []api.Pulse
	for i, d := range detectors {
		l = append(l, api.Pulse{Detector: d, Time: i, Direction: 1})
	}
	return l
}

// at returns one pulse for each time, all of the detector 1 in the direction 1.
func at(times ...int) []api.Pulse {
	var l []api.Pulse
	for _, t := range times {
		l = append(l, api.Pulse{Detector: 1, Time: t, Direction: 1})
	}
	return l
}

// grid returns n borders at different places, of alternating senses.
func grid(n int) []api.Border {
	l := make([]api.Border, n)
	for i := range l {
		l[i] = api.Border{Section: i % 32, Detector: (i/32*7 + i) % 32, Sense: 1 - i%2*2}
	}
	return l
}

// wrongBorders returns borders each of which is out of one of its ranges.
func wrongBorders() []api.Border {
	return borders(triples{{-1, 0, 1}, {32, 31, -1}, {0, -1, 1}, {31, 32, -1}, {0, 0, -2}, {0, 0, 0}, {31, 31, 2}})
}

// refused is a list of pulses with its error.
type refused struct {
	p []api.Pulse
	e api.Errno
}

// wrongPulses returns lists of pulses with each of the errors.
func wrongPulses() []refused {
	return []refused{
		{pulses(triples{{32, 0, 1}}), api.ErrInvalid},
		{pulses(triples{{-1, 0, 1}}), api.ErrInvalid},
		{pulses(triples{{1, -1, 1}}), api.ErrInvalid},
		{pulses(triples{{1, api.MaxTime + 1, 1}}), api.ErrInvalid},
		{pulses(triples{{1, 0, 0}}), api.ErrInvalid},
		{pulses(triples{{1, 0, 2}}), api.ErrInvalid},
		{pulses(triples{{1, 0, math.MaxInt}}), api.ErrInvalid},
		{pulses(triples{{math.MinInt, 0, 1}}), api.ErrInvalid},
		{at(0, 1, 0), api.ErrOrder},
		{at(make([]int, api.MaxPulses+1)...), api.ErrLimit},
		{make([]api.Pulse, 2*api.MaxPulses), api.ErrLimit},
	}
}

// P5.1

func sameValid(t *testing.T, l []api.Border, want api.Errno) {
	t.Helper()
	before := slices.Clone(l)
	if e := section.Valid(l); e != want {
		t.Errorf("Valid(%v): error %d, want %d", l, e, want)
	}
	if !slices.Equal(l, before) {
		t.Errorf("Valid has changed %v to %v", before, l)
	}
}

func TestP5_1Valid(t *testing.T) {
	for _, c := range []struct {
		l    []api.Border
		want api.Errno
	}{
		{nil, api.OK},
		{[]api.Border{}, api.OK},
		{borders(triples{{0, 1, 1}, {0, 2, -1}}), api.OK},
		{borders(triples{{0, 2, -1}, {1, 2, 1}}), api.OK},
		{borders(triples{{0, 0, 1}}), api.OK},
		{borders(triples{{31, 31, -1}}), api.OK},
		{borders(triples{{0, 31, 1}, {31, 0, 1}, {0, 0, 1}, {31, 31, 1}}), api.OK},
		{borders(triples{{3, 4, 1}, {4, 3, 1}}), api.OK},
		{borders(triples{{0, 0, 0}}), api.ErrInvalid},
		{borders(triples{{3, 4, 1}, {3, 4, 1}}), api.ErrDuplicate},
		{borders(triples{{3, 4, 1}, {3, 4, -1}}), api.ErrDuplicate},
		{borders(triples{{3, 4, -1}, {5, 4, 1}, {3, 6, 1}, {3, 4, 1}}), api.ErrDuplicate},
		{borders(triples{{3, 4, -1}, {3, 5, 1}, {3, 5, 1}, {3, 4, 1}}), api.ErrDuplicate},
	} {
		sameValid(t, c.l, c.want)
	}
	for _, b := range wrongBorders() {
		sameValid(t, []api.Border{b}, api.ErrInvalid)
	}
}

// Every place is one of its own: no two of them are taken for the same.
func TestP5_1ValidPlaces(t *testing.T) {
	for i := range 1024 {
		a := api.Border{Section: i / 32, Detector: i % 32, Sense: 1}
		for j := range 1024 {
			b := api.Border{Section: j / 32, Detector: j % 32, Sense: -1}
			want := api.OK
			if i == j {
				want = api.ErrDuplicate
			}
			if e := section.Valid([]api.Border{a, b}); e != want {
				t.Fatalf("Valid of %v and %v: error %d, want %d", a, b, e, want)
			}
		}
	}
}

func TestP5_1ValidNumbers(t *testing.T) {
	good := api.Border{Section: 7, Detector: 8, Sense: -1}
	for _, n := range numbers() {
		for _, b := range borders(triples{{n, 2, 1}, {2, n, 1}, {2, 3, n}, {n, n, n}, {n, n, 1}}) {
			for _, l := range [][]api.Border{{b}, {good, b}, {b, good}, {b, b}} {
				sameValid(t, l, valid(l))
			}
		}
	}
}

// The first border with an error counts, and in one border its ranges come before the earlier ones.
func TestP5_1ValidOrderOfErrors(t *testing.T) {
	good := api.Border{Section: 3, Detector: 4, Sense: 1}
	for _, w := range wrongBorders() {
		sameValid(t, []api.Border{good, w}, api.ErrInvalid)
		sameValid(t, []api.Border{w, good}, api.ErrInvalid)
		sameValid(t, []api.Border{w, w}, api.ErrInvalid)
		sameValid(t, []api.Border{good, good, w}, api.ErrDuplicate)
		sameValid(t, []api.Border{good, w, good}, api.ErrInvalid)
		sameValid(t, []api.Border{w, good, good}, api.ErrInvalid)
	}
	for _, sense := range []int{-2, 0, 2} {
		twice := api.Border{Section: 3, Detector: 4, Sense: sense}
		sameValid(t, []api.Border{good, twice}, api.ErrInvalid)
		sameValid(t, []api.Border{good, twice, good}, api.ErrInvalid)
		sameValid(t, []api.Border{good, good, twice}, api.ErrDuplicate)
	}
}

// All lists of up to three borders with few values, right and wrong.
func TestP5_1ValidDefinition(t *testing.T) {
	var some []api.Border
	for _, s := range []int{-1, 0, 31, 32} {
		for _, d := range []int{-1, 0, 31, 32} {
			for _, sense := range []int{-2, -1, 0, 1, 2} {
				some = append(some, api.Border{Section: s, Detector: d, Sense: sense})
			}
		}
	}
	for _, a := range some {
		for _, b := range some {
			l := []api.Border{a, b}
			sameValid(t, l, valid(l))
			for _, c := range some {
				l := []api.Border{a, b, c}
				if e := section.Valid(l); e != valid(l) {
					t.Fatalf("Valid(%v): error %d, want %d", l, e, valid(l))
				}
			}
		}
	}
}

func TestP5_1ValidLimit(t *testing.T) {
	for _, n := range []int{1, 2, 63, 64} {
		sameValid(t, grid(n), api.OK)
		for i := range n {
			l := grid(n)
			l[i].Sense = 0
			sameValid(t, l, api.ErrInvalid)
		}
		for i := 1; i < n; i++ {
			l := grid(n)
			l[i] = l[0]
			sameValid(t, l, api.ErrDuplicate)
		}
	}
	for _, n := range []int{65, 66, 128, 1024, 100000} {
		sameValid(t, grid(n), api.ErrLimit)
		sameValid(t, make([]api.Border, n), api.ErrLimit)
		sameValid(t, slices.Repeat(borders(triples{{32, 0, 1}}), n), api.ErrLimit)
	}
}

// P5.2

func sameCount(t *testing.T, l []api.Border, p []api.Pulse, number, reset int, want counted) {
	t.Helper()
	keptBorders, keptPulses := slices.Clone(l), slices.Clone(p)
	n, e := section.Count(l, p, number, reset)
	state, f := section.State(l, p, number, reset)
	few := p[:min(len(p), 9)]
	if n != want.n || e != want.e {
		t.Errorf("Count(%v, %d pulses %v, %d, %d) = %d, error %d; want %d, error %d", l, len(p), few, number, reset, n, e, want.n, want.e)
	}
	if state != want.state || f != want.e {
		t.Errorf("State(%v, %d pulses %v, %d, %d) = %d, error %d; want %d, error %d", l, len(p), few, number, reset, state, f, want.state, want.e)
	}
	if !slices.Equal(l, keptBorders) || !slices.Equal(p, keptPulses) {
		t.Errorf("Count or State has changed the borders %v or the %d pulses", keptBorders, len(p))
	}
}

func TestP5_2Count(t *testing.T) {
	two := borders(triples{{0, 1, 1}, {0, 2, -1}})
	three := borders(triples{{0, 1, 1}, {0, 2, -1}, {1, 2, 1}})
	back := func(l []api.Pulse) []api.Pulse {
		for i := range l {
			l[i].Direction = -1
		}
		return l
	}
	for _, c := range []struct {
		l       []api.Border
		p       []api.Pulse
		section int
		want    counted
	}{
		{two, ahead(1, 1, 2), 0, counted{n: 1, state: api.SectionOccupied}},
		{two, ahead(2, 1), 0, counted{n: 0, state: api.SectionDisturbed}},
		{two, nil, 0, counted{}},
		{two, []api.Pulse{}, 0, counted{}},
		{nil, nil, 0, counted{}},
		{[]api.Border{}, ahead(1, 2), 0, counted{}},
		{two, ahead(1, 2), 0, counted{}},
		{two, ahead(1, 1), 0, counted{n: 2, state: api.SectionOccupied}},
		{two, ahead(2), 0, counted{n: -1, state: api.SectionDisturbed}},
		{two, ahead(1, 2, 2), 0, counted{n: -1, state: api.SectionDisturbed}},
		{two, ahead(1, 2, 2, 1, 1), 0, counted{n: 1, state: api.SectionDisturbed}},
		{two, ahead(1, 1, 2, 2, 1, 2), 0, counted{}},
		// against the direction, and forth and back
		{two, back(ahead(2, 2, 1)), 0, counted{n: 1, state: api.SectionOccupied}},
		{two, back(ahead(1, 2)), 0, counted{n: 0, state: api.SectionDisturbed}},
		{two, pulses(triples{{1, 0, 1}, {1, 1, -1}}), 0, counted{}},
		{two, pulses(triples{{1, 0, -1}, {1, 1, 1}}), 0, counted{n: 0, state: api.SectionDisturbed}},
		// at one time, the order of the list decides
		{two, pulses(triples{{1, 5, 1}, {2, 5, 1}}), 0, counted{}},
		{two, pulses(triples{{2, 5, 1}, {1, 5, 1}}), 0, counted{n: 0, state: api.SectionDisturbed}},
		// the other section of a detector, and detectors that the section or no border has
		{three, ahead(1, 2), 1, counted{n: 1, state: api.SectionOccupied}},
		{three, ahead(1, 1), 1, counted{}},
		{three, ahead(3, 0, 31), 0, counted{}},
		{three, ahead(3, 1, 0, 31), 0, counted{n: 1, state: api.SectionOccupied}},
		{three, ahead(1, 2, 3), 2, counted{}},
		{three, ahead(1, 2, 3), 31, counted{}},
		{borders(triples{{31, 31, 1}, {0, 0, -1}}), ahead(31, 0), 31, counted{n: 1, state: api.SectionOccupied}},
		{borders(triples{{31, 31, 1}, {0, 0, -1}}), ahead(31, 0), 0, counted{n: -1, state: api.SectionDisturbed}},
	} {
		sameCount(t, c.l, c.p, c.section, -1, c.want)
	}
}

// A pulse counts if its time is greater than the reset.
func TestP5_2CountReset(t *testing.T) {
	l := borders(triples{{4, 1, 1}, {4, 2, -1}})
	for _, c := range []struct {
		p     []api.Pulse
		reset int
		n     int
	}{
		{at(0), -2, 1}, {at(0), -1, 1}, {at(0), 0, 0}, {at(0), 1, 0},
		{at(0, 5, 5, 6), -1, 4}, {at(0, 5, 5, 6), 0, 3}, {at(0, 5, 5, 6), 4, 3}, {at(0, 5, 5, 6), 5, 1}, {at(0, 5, 5, 6), 6, 0}, {at(0, 5, 5, 6), 7, 0},
		{at(3, api.MaxTime), api.MaxTime - 1, 1}, {at(3, api.MaxTime), api.MaxTime, 0}, {at(3, api.MaxTime), api.MaxTime + 1, 0},
		{at(0, api.MaxTime), math.MinInt, 2}, {at(0, api.MaxTime), math.MinInt + 1, 2}, {at(0, api.MaxTime), math.MaxInt, 0},
	} {
		want := counted{n: c.n}
		if c.n > 0 {
			want.state = api.SectionOccupied
		}
		sameCount(t, l, c.p, 4, c.reset, want)
	}
	// What was negative before the reset disturbs nothing behind it, and what was positive before it does not help.
	sameCount(t, l, ahead(2, 1, 1, 2), 4, -1, counted{n: 0, state: api.SectionDisturbed})
	sameCount(t, l, ahead(2, 1, 1, 2), 4, 0, counted{n: 1, state: api.SectionOccupied})
	sameCount(t, l, ahead(2, 1, 1, 2), 4, 1, counted{n: 0, state: api.SectionFree})
	sameCount(t, l, ahead(2, 1, 1, 2), 4, 2, counted{n: -1, state: api.SectionDisturbed})
	sameCount(t, l, ahead(2, 1, 1, 2), 4, 3, counted{n: 0, state: api.SectionFree})
}

func TestP5_2CountDefinition(t *testing.T) {
	r := random(1)
	for range 3000 {
		size := 1 + r.IntN(4)
		l := randomBorders(r, r.IntN(9), size)
		p := randomPulses(r, r.IntN(12), size)
		for number := -1; number <= size; number++ {
			for _, reset := range []int{-1, 0, r.IntN(30), maxTime} {
				sameCount(t, l, p, number, reset, count(l, p, number, reset))
			}
			for _, x := range p {
				sameCount(t, l, p, number, x.Time-1, count(l, p, number, x.Time-1))
				sameCount(t, l, p, number, x.Time, count(l, p, number, x.Time))
				sameCount(t, l, p, number, x.Time+1, count(l, p, number, x.Time+1))
			}
		}
	}
}

// The count of a list is the sum of the counts of its parts, and no pulses put a disturbed section in order.
func TestP5_2CountParts(t *testing.T) {
	r := random(2)
	for range 300 {
		l := randomBorders(r, 8, 3)
		p := randomPulses(r, 20, 3)
		reset := r.IntN(20) - 1
		for number := range 3 {
			all, _ := section.Count(l, p, number, reset)
			last, _ := section.State(l, p, number, reset)
			for i := range p {
				a, e := section.Count(l, p[:i], number, reset)
				b, f := section.Count(l, p[i:], number, reset)
				if a+b != all || e != api.OK || f != api.OK {
					t.Errorf("%v, %v, section %d since %d: %d up to %d, %d behind it (errors %d, %d), %d in all", l, p, number, reset, a, i, b, e, f, all)
				}
				if s, _ := section.State(l, p[:i], number, reset); s == api.SectionDisturbed && last != s {
					t.Errorf("%v, %v, section %d since %d: disturbed at %d, but %d at the end", l, p, number, reset, i, last)
				}
			}
		}
	}
}

func TestP5_2CountErrors(t *testing.T) {
	good := borders(triples{{0, 1, 1}})
	badBorders := []struct {
		l []api.Border
		e api.Errno
	}{
		{make([]api.Border, 65), api.ErrLimit},
		{borders(triples{{0, 1, 0}}), api.ErrInvalid},
		{borders(triples{{0, 1, 1}, {0, 1, 1}}), api.ErrDuplicate},
	}
	for _, number := range []int{-1, 32, 33, math.MinInt, math.MaxInt} {
		for _, reset := range []int{-1, 0, maxTime, math.MinInt, math.MaxInt} {
			sameCount(t, good, ahead(1, 1), number, reset, counted{e: api.ErrRange})
			sameCount(t, nil, nil, number, reset, counted{e: api.ErrRange})
		}
	}
	for _, number := range []int{-1, 0, 31, 32} {
		for _, p := range wrongPulses() {
			sameCount(t, good, p.p, number, -1, counted{e: p.e})
			for _, b := range badBorders {
				sameCount(t, b.l, p.p, number, -1, counted{e: b.e})
			}
		}
		for _, b := range badBorders {
			sameCount(t, b.l, ahead(1), number, -1, counted{e: b.e})
			sameCount(t, b.l, nil, number, 5, counted{e: b.e})
		}
	}
}

// The longest lists: 64 borders and MaxPulses pulses.
func TestP5_2CountLimit(t *testing.T) {
	r := random(3)
	same := at(make([]int, api.MaxPulses)...)
	sameCount(t, borders(triples{{5, 1, 1}}), same, 5, -1, counted{n: api.MaxPulses, state: api.SectionOccupied})
	sameCount(t, borders(triples{{5, 1, -1}}), same, 5, -1, counted{n: -api.MaxPulses, state: api.SectionDisturbed})
	sameCount(t, borders(triples{{5, 1, 1}}), same, 5, 0, counted{})
	all := randomPulses(r, api.MaxPulses, 32)
	for number := range 32 {
		sameCount(t, grid(64), all, number, -1, count(grid(64), all, number, -1))
		sameCount(t, grid(64), all, number, 2000, count(grid(64), all, number, 2000))
	}
}

// P5.3

func sameThrough(t *testing.T, l []api.Border, want []int, wantE api.Errno) {
	t.Helper()
	before := slices.Clone(l)
	if got, e := section.Through(l); !slices.Equal(got, want) || e != wantE {
		t.Errorf("Through(%v) = %v, error %d; want %v, error %d", l, got, e, want, wantE)
	}
	if !slices.Equal(l, before) {
		t.Errorf("Through has changed %v to %v", before, l)
	}
}

func sameBalance(t *testing.T, l []api.Border, p []api.Pulse, want int, wantE api.Errno) {
	t.Helper()
	keptBorders, keptPulses := slices.Clone(l), slices.Clone(p)
	if got, e := section.Balance(l, p); got != want || e != wantE {
		t.Errorf("Balance(%v, %d pulses %v) = %d, error %d; want %d, error %d", l, len(p), p[:min(len(p), 9)], got, e, want, wantE)
	}
	if !slices.Equal(l, keptBorders) || !slices.Equal(p, keptPulses) {
		t.Errorf("Balance has changed the borders %v or the %d pulses", keptBorders, len(p))
	}
}

func TestP5_3Through(t *testing.T) {
	for _, c := range []struct {
		l    []api.Border
		want []int
	}{
		{nil, nil},
		{[]api.Border{}, nil},
		{borders(triples{{0, 2, -1}, {1, 2, 1}}), []int{2}},
		{borders(triples{{0, 2, 1}, {1, 2, -1}}), []int{2}},
		{borders(triples{{0, 2, 1}}), nil},
		{borders(triples{{0, 2, -1}}), nil},
		{borders(triples{{0, 2, 1}, {1, 2, 1}}), nil},
		{borders(triples{{0, 2, -1}, {1, 2, -1}}), nil},
		{borders(triples{{0, 2, -1}, {1, 2, 1}, {2, 2, 1}}), nil},
		{borders(triples{{0, 2, -1}, {1, 2, 1}, {2, 2, -1}}), nil},
		{borders(triples{{0, 2, 1}, {1, 2, -1}, {2, 2, 1}, {3, 2, -1}}), nil},
		{borders(triples{{0, 2, 1}, {0, 3, -1}}), nil},
		{borders(triples{{0, 0, 1}, {31, 0, -1}, {0, 31, 1}, {31, 31, -1}}), []int{0, 31}},
		{borders(triples{{7, 31, 1}, {6, 9, -1}, {5, 0, 1}, {4, 31, -1}, {3, 0, -1}, {2, 9, 1}}), []int{0, 9, 31}},
		{borders(triples{{0, 9, -1}, {1, 9, 1}, {1, 4, -1}, {2, 4, -1}, {5, 3, 1}, {2, 7, -1}, {3, 7, 1}, {4, 7, 1}, {8, 2, 1}, {3, 2, -1}}), []int{2, 9}},
	} {
		sameThrough(t, c.l, c.want, api.OK)
		reversed := slices.Clone(c.l)
		slices.Reverse(reversed)
		sameThrough(t, reversed, c.want, api.OK)
	}
	// 32 detectors, each of which is through, in an order of their own
	var all []api.Border
	var every []int
	for d := range 32 {
		all = append(all, api.Border{Section: d, Detector: 31 - d, Sense: 1}, api.Border{Section: d, Detector: d * 5 % 32, Sense: -1})
		every = append(every, d)
	}
	sameThrough(t, all, every, api.OK)
}

func TestP5_3ThroughDefinition(t *testing.T) {
	r := random(4)
	for range 5000 {
		l := randomBorders(r, r.IntN(70), 1+r.IntN(32))
		want, e := through(l)
		sameThrough(t, l, want, e)
	}
}

func TestP5_3Balance(t *testing.T) {
	l := borders(triples{{0, 9, -1}, {1, 9, 1}, {1, 4, -1}, {2, 4, -1}, {5, 3, 1}, {2, 7, -1}, {3, 7, 1}, {4, 7, 1}, {8, 2, 1}, {3, 2, -1}})
	for _, c := range []struct {
		p    []api.Pulse
		want int
	}{
		{nil, 0},
		{[]api.Pulse{}, 0},
		{ahead(9, 2, 2, 9, 9), 0},
		{pulses(triples{{9, 0, 1}, {2, 0, -1}, {9, 5, -1}, {9, 5, -1}}), 0},
		{ahead(4), -2},
		{pulses(triples{{4, 0, -1}}), 2},
		{ahead(7), 1},
		{ahead(3), 1},
		{ahead(9, 3, 2, 3), 2},
		{ahead(20), 0},
		{ahead(20, 0, 31, 3), 1},
		{pulses(triples{{3, 0, 1}, {3, 1, 1}, {4, 1, -1}}), 4},
		// no time is before the reset
		{pulses(triples{{3, 0, 1}, {3, api.MaxTime, 1}}), 2},
	} {
		sameBalance(t, l, c.p, c.want, api.OK)
	}
	sameBalance(t, nil, ahead(0, 1, 31), 0, api.OK)
	sameBalance(t, borders(triples{{0, 0, 1}, {31, 0, 1}}), ahead(0), 2, api.OK)
	sameBalance(t, borders(triples{{0, 31, -1}, {31, 31, -1}, {30, 31, -1}}), ahead(31, 31), -6, api.OK)
}

func TestP5_3BalanceDefinition(t *testing.T) {
	r := random(5)
	for range 3000 {
		size := 1 + r.IntN(32)
		l := randomBorders(r, r.IntN(70), size)
		p := randomPulses(r, r.IntN(40), size)
		want, e := balance(l, p)
		sameBalance(t, l, p, want, e)
	}
}

// Pulses of detectors that are through leave the balance at 0, whatever the other detectors are.
func TestP5_3BalanceThrough(t *testing.T) {
	r := random(6)
	tried := 0
	for range 300 {
		l := randomBorders(r, 20, 10)
		detectors, _ := section.Through(l)
		p := randomPulses(r, 30, 10)
		p = slices.DeleteFunc(p, func(x api.Pulse) bool { return !slices.Contains(detectors, x.Detector) })
		sameBalance(t, l, p, 0, api.OK)
		tried += len(p)
	}
	if tried == 0 {
		t.Error("no pulse was of a detector that is through")
	}
}

// The longest lists: 64 borders and MaxPulses pulses.
func TestP5_3Limit(t *testing.T) {
	r := random(7)
	p := randomPulses(r, api.MaxPulses, 32)
	want, e := balance(grid(64), p)
	sameBalance(t, grid(64), p, want, e)
	detectors, e := through(grid(64))
	sameThrough(t, grid(64), detectors, e)

	all := make([]api.Border, 32)
	for s := range all {
		all[s] = api.Border{Section: s, Detector: 1, Sense: -1}
	}
	sameBalance(t, all, at(make([]int, api.MaxPulses)...), -32*api.MaxPulses, api.OK)
}

func TestP5_3Errors(t *testing.T) {
	good := api.Border{Section: 3, Detector: 4, Sense: 1}
	lists := [][]api.Border{
		make([]api.Border, 65),
		grid(65),
		{good, good},
		borders(triples{{3, 4, 1}, {3, 4, 1}, {32, 0, 1}}),
		borders(triples{{0, 2, -1}, {1, 2, 1}, {0, 2, 1}}),
		borders(triples{{3, 4, 1}, {3, 4, 0}}),
	}
	for _, b := range wrongBorders() {
		lists = append(lists, []api.Border{b}, []api.Border{good, b}, []api.Border{b, good, good})
	}
	for _, l := range lists {
		sameThrough(t, l, nil, valid(l))
		sameBalance(t, l, nil, 0, valid(l))
		sameBalance(t, l, ahead(2, 4), 0, valid(l))
		for _, p := range wrongPulses() {
			sameBalance(t, l, p.p, 0, valid(l))
		}
	}
	for _, p := range wrongPulses() {
		sameBalance(t, nil, p.p, 0, p.e)
		sameBalance(t, []api.Border{good}, p.p, 0, p.e)
		sameBalance(t, grid(64), p.p, 0, p.e)
	}
}

// Writing into a result changes no other one and no argument (R2).
func TestP5_3NewMemory(t *testing.T) {
	l := borders(triples{{0, 2, -1}, {1, 2, 1}, {1, 5, -1}, {2, 5, 1}})
	kept := slices.Clone(l)
	first, _ := section.Through(l)
	second, _ := section.Through(l)
	clear(first[:cap(first)])
	if want := []int{2, 5}; !slices.Equal(second, want) || !slices.Equal(l, kept) {
		t.Errorf("after writing into a result of Through: %v and %v", second, l)
	}
	sameThrough(t, l, []int{2, 5}, api.OK)
}
