package section_test

import (
	"math"
	"math/rand/v2"

	"humpyard/api"
	"humpyard/detector"
)

// This file says what the functions of package section must return, from the definitions alone.

const maxTime = 1000000000

// valid compares each border with all those before it.
func valid(l []api.Border) api.Errno {
	if len(l) > 64 {
		return api.ErrLimit
	}
	for i, b := range l {
		if b.Section < 0 || b.Section > 31 || b.Detector < 0 || b.Detector > 31 || (b.Sense != 1 && b.Sense != -1) {
			return api.ErrInvalid
		}
		for _, earlier := range l[:i] {
			if earlier.Section == b.Section && earlier.Detector == b.Detector {
				return api.ErrDuplicate
			}
		}
	}
	return api.OK
}

// inputs returns the first error of a list of borders and a list of pulses.
func inputs(l []api.Border, p []api.Pulse) api.Errno {
	if e := valid(l); e != api.OK {
		return e
	}
	return detector.Valid(p)
}

// effect returns the effect of a pulse on a section.
func effect(l []api.Border, x api.Pulse, section int) int {
	for _, b := range l {
		if b.Section == section && b.Detector == x.Detector {
			return x.Direction * b.Sense
		}
	}
	return 0
}

// countOf returns the count of a section that exists.
func countOf(l []api.Border, p []api.Pulse, section, reset int) int {
	sum := 0
	for _, x := range p {
		if x.Time > reset {
			sum += effect(l, x, section)
		}
	}
	return sum
}

// counted is what Count and State return together.
type counted struct {
	n, state int
	e        api.Errno
}

// count takes the count of each beginning of the list of pulses.
func count(l []api.Border, p []api.Pulse, section, reset int) counted {
	if e := inputs(l, p); e != api.OK {
		return counted{e: e}
	}
	if section < 0 || section > 31 {
		return counted{e: api.ErrRange}
	}
	n := countOf(l, p, section, reset)
	state := api.SectionFree
	if n > 0 {
		state = api.SectionOccupied
	}
	least, sum := 0, 0
	for i := range p {
		sum += countOf(l, p[i:i+1], section, reset)
		least = min(least, sum)
	}
	if least < 0 {
		state = api.SectionDisturbed
	}
	return counted{n, state, api.OK}
}

// through looks at the senses of one detector after the other.
func through(l []api.Border) ([]int, api.Errno) {
	if e := valid(l); e != api.OK {
		return nil, e
	}
	var all []int
	for d := range 32 {
		var senses []int
		for _, b := range l {
			if b.Detector == d {
				senses = append(senses, b.Sense)
			}
		}
		if len(senses) == 2 && senses[0] != senses[1] {
			all = append(all, d)
		}
	}
	return all, api.OK
}

// balance adds the counts of one section after the other.
func balance(l []api.Border, p []api.Pulse) (int, api.Errno) {
	if e := inputs(l, p); e != api.OK {
		return 0, e
	}
	sum := 0
	for s := range 32 {
		sum += countOf(l, p, s, -1)
	}
	return sum, api.OK
}

// numbers returns numbers at the limits of what a field of a border may be, and the ends of int.
func numbers() []int {
	l := []int{-2, -1, 0, 1, 2, 30, 31, 32, 33, math.MaxInt, math.MaxInt - 1, math.MinInt, math.MinInt + 1}
	for p := 2; p < 63; p++ {
		l = append(l, 1<<p, -1<<p, 1<<p+1, 1<<p-1)
	}
	return l
}

// randomBorders returns a valid list of at most n borders with the sections and detectors from 0 up to, but not including, size.
func randomBorders(r *rand.Rand, n, size int) []api.Border {
	var l []api.Border
	for range n {
		b := api.Border{Section: r.IntN(size), Detector: r.IntN(size), Sense: 2*r.IntN(2) - 1}
		if more := append(l[:len(l):len(l)], b); valid(more) == api.OK {
			l = more
		}
	}
	return l
}

// randomPulses returns a valid list of n pulses of the detectors from 0 up to, but not including, size; some are at one time.
func randomPulses(r *rand.Rand, n, size int) []api.Pulse {
	t := r.IntN(3)
	l := make([]api.Pulse, n)
	for i := range l {
		l[i] = api.Pulse{Detector: r.IntN(size), Time: t, Direction: 2*r.IntN(2) - 1}
		t += r.IntN(3)
	}
	return l
}

func random(stream uint64) *rand.Rand {
	return rand.New(rand.NewPCG(5, stream))
}
