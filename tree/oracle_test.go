package tree_test

import (
	"fmt"
	"math"
	"math/rand/v2"
	"slices"

	"humpyard/api"
	"humpyard/layout"
)

// This file says what the functions of package tree must return, from the definitions alone.

const (
	crest    = api.ElementCrest
	segment  = api.ElementSegment
	retarder = api.ElementRetarder
	points   = api.ElementSwitch
	track    = api.ElementTrack

	none  = api.SideNone
	left  = api.SideLeft
	right = api.SideRight
)

// paths returns the path of each element of a layout, found on the way down from the crest.
func paths(l []api.Element) [][]int {
	p := make([][]int, len(l))
	var down func(way []int)
	down = func(way []int) {
		i := way[len(way)-1]
		p[i] = slices.Clone(way)
		for k := range l {
			if l[k].Parent == i {
				down(append(slices.Clone(way), k))
			}
		}
	}
	down([]int{0})
	return p
}

// all is what the functions must return for each element and each two elements of a layout.
type all struct {
	tracks   []int
	paths    [][]int
	common   [][]int
	settings [][][2]int
	beyond   [][]int
}

func allOf(l []api.Element) all {
	a := all{paths: paths(l)}
	for i, x := range l {
		if x.Kind == track {
			a.tracks = append(a.tracks, i)
		}
		row := make([]int, len(l))
		for k := range l {
			row[k] = common(a.paths[i], a.paths[k])
		}
		a.common = append(a.common, row)
		a.settings = append(a.settings, settings(l, a.paths[i]))
	}
	for i := range l {
		var beyond []int
		for _, k := range a.tracks {
			if slices.Contains(a.paths[k], i) {
				beyond = append(beyond, k)
			}
		}
		a.beyond = append(a.beyond, beyond)
	}
	return a
}

// common returns the last element of a path that is on another one.
func common(p, q []int) int {
	for _, i := range slices.Backward(p) {
		if slices.Contains(q, i) {
			return i
		}
	}
	panic("paths without the crest")
}

func settings(l []api.Element, path []int) (s [][2]int) {
	for n := 0; n+1 < len(path); n++ {
		if l[path[n]].Kind == points {
			s = append(s, [2]int{path[n], l[path[n+1]].Side})
		}
	}
	return s
}

// errorOf returns the first error of a list and of indexes.
func errorOf(l []api.Element, indexes ...int) api.Errno {
	if e := layout.Valid(l); e != api.OK {
		return e
	}
	for _, i := range indexes {
		if i < 0 || i > len(l)-1 {
			return api.ErrRange
		}
	}
	return api.OK
}

// element returns an element with the numbers that its kind needs.
func element(kind int, name string, parent, side int) api.Element {
	x := api.Element{Kind: kind, Name: name, Parent: parent, Side: side}
	if kind != crest {
		x.Length = 1000
	}
	if kind == retarder {
		x.Power = 1
	}
	return x
}

// place is a parent and a side on which an element can stand.
type place struct{ parent, side int }

// placesBehind returns the places that the element i of a kind opens.
func placesBehind(kind, i int) []place {
	switch kind {
	case track:
		return nil
	case points:
		return []place{{i, left}, {i, right}}
	}
	return []place{{i, none}}
}

// eachLayout calls visit with every layout of n elements, up to the names and lengths.
func eachLayout(n int, visit func(l []api.Element)) {
	var extend func(l []api.Element, open []place)
	extend = func(l []api.Element, open []place) {
		if len(l)+len(open) > n {
			return
		}
		if len(open) == 0 {
			if len(l) == n {
				visit(l)
			}
			return
		}
		for o, p := range open {
			for _, kind := range []int{segment, retarder, points, track} {
				x := element(kind, fmt.Sprintf("e%d", len(l)), p.parent, p.side)
				rest := slices.Delete(slices.Clone(open), o, o+1)
				extend(append(slices.Clone(l), x), append(rest, placesBehind(kind, len(l))...))
			}
		}
	}
	extend([]api.Element{element(crest, "c", -1, none)}, placesBehind(crest, 0))
}

// randomLayout returns a layout of n elements, at least two, with up to 32 tracks. The elements stand in the order in which they are placed, at random.
func randomLayout(r *rand.Rand, n int) []api.Element {
	l := []api.Element{element(crest, "c", -1, none)}
	open := placesBehind(crest, 0)
	tracks := 0
	for len(open) > 0 {
		o := r.IntN(len(open))
		p := open[o]
		open = slices.Delete(open, o, o+1)
		kind := []int{segment, retarder, points, points, track}[r.IntN(5)]
		room := n - len(l) - len(open)
		switch {
		case room <= 1:
			kind = track
		case kind == points && (room < 3 || tracks+len(open)+2 > api.MaxTracks), kind == track && len(open) == 0:
			kind = segment
		}
		if kind == track {
			tracks++
		}
		open = append(open, placesBehind(kind, len(l))...)
		l = append(l, element(kind, fmt.Sprintf("e%d", len(l)), p.parent, p.side))
	}
	return l
}

// integers returns numbers around the indexes of layouts, numbers that look like them in fewer bits, and the ends of int.
func integers() []int {
	l := []int{math.MinInt, math.MinInt + 1, math.MaxInt, math.MaxInt - 1, 1 << 32, 1<<32 + 1, -1 << 32, -1<<32 + 1}
	for _, n := range []int{0, 1, 2, 3, 4, 7, 16, 64, 127, 128, 129, 255, 256, 1000, 65536} {
		l = append(l, n-1, n, n+1, -n-1, -n, -n+1)
	}
	return l
}

func random(stream uint64) *rand.Rand {
	return rand.New(rand.NewPCG(10, stream))
}
