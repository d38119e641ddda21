package detector_test

import (
	"math"
	"math/rand/v2"

	"humpyard/api"
)

// This file says what the functions of package detector must return, from the definitions alone.

const (
	maxPulses = 4096
	maxTime   = 1000000000
)

// valid looks at the pulses in order.
func valid(l []api.Pulse) api.Errno {
	if len(l) > maxPulses {
		return api.ErrLimit
	}
	for i, p := range l {
		if p.Detector < 0 || p.Detector > 31 || p.Time < 0 || p.Time > maxTime || (p.Direction != 1 && p.Direction != -1) {
			return api.ErrInvalid
		}
		if i > 0 && l[i-1].Time > p.Time {
			return api.ErrOrder
		}
	}
	return api.OK
}

// groups divides a valid list from the left.
func groups(l []api.Pulse) [][]api.Pulse {
	var all [][]api.Pulse
	var open []api.Pulse
	for i, p := range l {
		if i > 0 && (len(open) == 8 || p.Time-l[i-1].Time > 1023) {
			all = append(all, open)
			open = nil
		}
		open = append(open, p)
	}
	if len(open) > 0 {
		all = append(all, open)
	}
	return all
}

// groupValues returns the values of one group.
func groupValues(group []api.Pulse) []int {
	base := group[0].Time
	l := []int{1536 + len(group), base / (1024 * 1024), base / 1024 % 1024, base % 1024}
	for i, p := range group {
		difference := 0
		if i > 0 {
			difference = p.Time - group[i-1].Time
		}
		l = append(l, map[int]int{1: 1025, -1: 1024}[p.Direction]+2*p.Detector, difference)
	}
	return l
}

// messageValues returns the values of the message of a valid list.
func messageValues(l []api.Pulse) []int {
	var values []int
	for _, g := range groups(l) {
		values = append(values, groupValues(g)...)
	}
	return values
}

// read returns what a message with these values says, where -1 is a value that is lost: it first finds what could be read at each index by itself.
func read(values []int) ([]api.Pulse, []api.Interval, api.Errno) {
	marks := make([]bool, len(values)+1)
	marks[len(values)] = true
	at := make([][]api.Pulse, len(values))
	for i, v := range values {
		marks[i] = v == 1537 || v == 1538 || v == 1539 || v == 1540 || v == 1541 || v == 1542 || v == 1543 || v == 1544
		if marks[i] {
			at[i] = groupAt(values[i:])
		}
	}
	var pulses []api.Pulse
	var gaps []api.Interval
	for i := 0; i < len(values); {
		pulses = append(pulses, at[i]...)
		if len(at[i]) > 0 {
			i += 4 + 2*len(at[i])
			continue
		}
		gap := api.Interval{Lo: i, Hi: i}
		for !marks[gap.Hi+1] {
			gap.Hi++
		}
		gaps = append(gaps, gap)
		i = gap.Hi + 1
	}
	if len(pulses) > maxPulses {
		return nil, nil, api.ErrLimit
	}
	return pulses, gaps, api.OK
}

// groupAt returns the pulses of the group that begins with a mark in place, or none: it compares the values with those of the group that they would have to be.
func groupAt(values []int) []api.Pulse {
	n := values[0] - 1536
	if len(values) < 4+2*n {
		return nil
	}
	for _, v := range values[1:4] {
		if v < 0 || v > 1023 {
			return nil
		}
	}
	var l []api.Pulse
	t := values[1]*1048576 + values[2]*1024 + values[3]
	for i := range n {
		what, difference := values[4+2*i], values[5+2*i]
		if what < 1024 || what >= 1024+64 || difference < 0 || difference > 1023 {
			return nil
		}
		t += difference
		if t > maxTime {
			return nil
		}
		l = append(l, api.Pulse{Detector: (what - 1024) / 2, Time: t, Direction: 2*(what%2) - 1})
	}
	return l
}

// numbers returns numbers at the limits of what a field of a pulse may be, and the ends of int.
func numbers() []int {
	l := []int{-1, 0, 1, 2, -2, 31, 32, maxTime - 1, maxTime, maxTime + 1, -maxTime, math.MaxInt, math.MaxInt - 1, math.MinInt, math.MinInt + 1}
	for p := 1; p < 63; p++ {
		l = append(l, 1<<p, -1<<p, 1<<p+1, 1<<p-1)
	}
	return l
}

// randomList returns a valid list of n pulses, some of which are at one time, some as far apart as a group allows, and some farther.
func randomList(r *rand.Rand, n int) []api.Pulse {
	steps := []int{0, 0, 1, 5, 100, 1022, 1023, 1023, 1024, 1025, 2047, 200000}
	t := r.IntN(100000)
	l := make([]api.Pulse, n)
	for i := range l {
		if i > 0 {
			t += steps[r.IntN(len(steps))]
		}
		l[i] = api.Pulse{Detector: r.IntN(32), Time: t, Direction: 2*r.IntN(2) - 1}
	}
	return l
}

func random(stream uint64) *rand.Rand {
	return rand.New(rand.NewPCG(4, stream))
}
