package layout_test

import (
	"fmt"
	"math"
	"math/big"
	"math/rand/v2"
	"regexp"
	"slices"
	"strings"

	"humpyard/api"
)

// This file says what the functions of package layout must return, from the definitions alone.

const (
	crest    = api.ElementCrest
	segment  = api.ElementSegment
	retarder = api.ElementRetarder
	points   = api.ElementSwitch
	track    = api.ElementTrack

	none  = api.SideNone
	left  = api.SideLeft
	right = api.SideRight
)

var name = regexp.MustCompile(`^[a-z0-9]{1,12}\z`)

// outside says whether a number is not in a range.
func outside(n, low, high int) bool {
	return n < low || n > high
}

func sound(x api.Element) bool {
	if outside(x.Kind, 0, 4) || !name.MatchString(x.Name) || outside(x.Side, 0, 2) {
		return false
	}
	if x.Kind == crest {
		return x.Parent == -1 && x.Side == 0 && x.Length == 0 && x.Grade == 0 && x.Curve == 0 && x.Power == 0
	}
	least, most := 0, 0
	if x.Kind == retarder {
		least, most = 1, 1000000000
	}
	return !outside(x.Length, 1, 1000000) && !outside(x.Grade, -10000, 10000) && !outside(x.Curve, 0, 5000) && !outside(x.Power, least, most)
}

// contradicts says whether the element i contradicts its parent or an element before it.
func contradicts(l []api.Element, i int) bool {
	x := l[i]
	switch l[x.Parent].Kind {
	case track:
		return true
	case points:
		if x.Side == none {
			return true
		}
	default:
		if x.Side != none {
			return true
		}
	}
	return slices.ContainsFunc(l[:i], func(y api.Element) bool { return y.Parent == x.Parent && y.Side == x.Side })
}

func valid(l []api.Element) api.Errno {
	if len(l) > 128 {
		return api.ErrLimit
	}
	if len(l) == 0 {
		return api.ErrMissing
	}
	for i, x := range l {
		switch {
		case !sound(x), i == 0 && x.Kind != crest, i > 0 && x.Kind == crest:
			return api.ErrInvalid
		case slices.ContainsFunc(l[:i], func(y api.Element) bool { return y.Name == x.Name }):
			return api.ErrDuplicate
		case i > 0 && outside(x.Parent, 0, i-1):
			return api.ErrOrder
		case i > 0 && contradicts(l, i):
			return api.ErrConflict
		}
	}
	tracks := 0
	for i, x := range l {
		children := 0
		for _, y := range l {
			if y.Parent == i {
				children++
			}
		}
		if children == 0 && x.Kind != track || children < 2 && x.Kind == points {
			return api.ErrMissing
		}
		if x.Kind == track {
			tracks++
		}
	}
	if tracks > 32 {
		return api.ErrLimit
	}
	return api.OK
}

// written writes elements in the form of P9.2, also where they are no layout, as long as each Parent but that of the crest is an index.
func written(l []api.Element) string {
	text := ""
	for _, x := range l {
		if x.Kind == crest {
			text += fmt.Sprintf("crest %s\n", x.Name)
			continue
		}
		side := map[int]string{left: ":left", right: ":right"}[x.Side]
		text += fmt.Sprintf("%s %s %s%s %d %d %d", []string{"", "segment", "retarder", "switch", "track"}[x.Kind], x.Name, l[x.Parent].Name, side, x.Length, x.Grade, x.Curve)
		if x.Kind == retarder {
			text += fmt.Sprintf(" %d", x.Power)
		}
		text += "\n"
	}
	return text
}

func format(l []api.Element) (string, api.Errno) {
	if e := valid(l); e != api.OK {
		return "", e
	}
	return written(l), api.OK
}

var (
	number      = `(0|-?[1-9][0-9]*)`
	passed      = regexp.MustCompile(`^ *(#.*)?\z`)
	crestLine   = regexp.MustCompile(`^ *crest +([^ ]+) *\z`)
	elementLine = regexp.MustCompile(`^ *(?:(segment|switch|track)|(retarder)) +([^ ]+) +([^ ]+) +` + number + ` +` + number + ` +` + number + `(?: +` + number + `)? *\z`)
	parentWord  = regexp.MustCompile(`^([a-z0-9]*)(|:left|:right)\z`)
)

// numbered returns the numbers that words are, if all of them are in the range of a text.
func numbered(words []string) (n []int, ok bool) {
	for _, s := range words {
		x, isNumber := new(big.Int).SetString(s, 10)
		if !isNumber {
			panic("no number: " + s)
		}
		if x.CmpAbs(big.NewInt(1000000000)) > 0 {
			return nil, false
		}
		n = append(n, int(x.Int64()))
	}
	return n, true
}

// parseLine returns the element of a line that follows the elements l; has is false if it is passed over.
func parseLine(s string, l []api.Element) (x api.Element, has bool, e api.Errno) {
	if passed.MatchString(s) {
		return x, false, api.OK
	}
	if m := crestLine.FindStringSubmatch(s); m != nil {
		if !name.MatchString(m[1]) {
			return x, true, api.ErrName
		}
		return api.Element{Kind: crest, Name: m[1], Parent: -1}, true, api.OK
	}
	m := elementLine.FindStringSubmatch(s)
	if m == nil || (m[2] == "") != (m[8] == "") {
		return x, true, api.ErrSyntax
	}
	words := m[5:]
	if m[8] == "" {
		words = m[5:8]
	}
	n, ok := numbered(words)
	if !ok {
		return x, true, api.ErrRange
	}
	p := parentWord.FindStringSubmatch(m[4])
	if !name.MatchString(m[3]) || p == nil {
		return x, true, api.ErrName
	}
	i := slices.IndexFunc(l, func(y api.Element) bool { return y.Name == p[1] })
	if i < 0 {
		return x, true, api.ErrName
	}
	x = api.Element{Name: m[3], Parent: i, Length: n[0], Grade: n[1], Curve: n[2]}
	x.Kind = map[string]int{"segment": segment, "": retarder, "switch": points, "track": track}[m[1]]
	x.Side = map[string]int{"": none, ":left": left, ":right": right}[p[2]]
	if len(n) == 4 {
		x.Power = n[3]
	}
	return x, true, api.OK
}

// parsed is what Parse returns.
type parsed struct {
	l    []api.Element
	line int
	e    api.Errno
}

func parse(text string) parsed {
	if len(text) > 16384 {
		return parsed{nil, 0, api.ErrLimit}
	}
	var l []api.Element
	for line := 1; text != ""; line++ {
		var s string
		s, text, _ = strings.Cut(text, "\n")
		x, has, e := parseLine(s, l)
		if e != api.OK {
			return parsed{nil, line, e}
		}
		if has {
			l = append(l, x)
		}
	}
	if e := valid(l); e != api.OK {
		return parsed{nil, 0, e}
	}
	return parsed{l, 0, api.OK}
}

// randomElement returns a sound element behind a parent, often with numbers at the ends of their ranges.
func randomElement(r *rand.Rand, kind, parent, side int) api.Element {
	between := func(low, high int) int {
		switch r.IntN(5) {
		case 0:
			return low
		case 1:
			return high
		case 2:
			return max(low, min(0, high))
		}
		return low + r.IntN(high-low+1)
	}
	x := api.Element{Kind: kind, Parent: parent, Side: side, Length: between(1, 1000000), Grade: between(-10000, 10000), Curve: between(0, 5000)}
	if kind == retarder {
		x.Power = between(1, 1000000000)
	}
	return x
}

// place is a parent and a side on which an element can stand.
type place struct{ parent, side int }

// randomLayout returns a valid layout of about n elements with up to 32 tracks. The elements stand in the order in which they are placed, at random.
func randomLayout(r *rand.Rand, n int) []api.Element {
	l := []api.Element{{Kind: crest, Parent: -1}}
	open := []place{{0, none}}
	for len(open) > 0 {
		i := r.IntN(len(open))
		p := open[i]
		open = slices.Delete(open, i, i+1)
		kind := track
		if len(l)+len(open) < n {
			kind = []int{segment, retarder, points}[r.IntN(3)]
		}
		tracksAhead := len(open) + 1
		for _, x := range l {
			if x.Kind == track {
				tracksAhead++
			}
		}
		if kind == points && tracksAhead >= 32 {
			kind = segment
		}
		switch kind {
		case points:
			open = append(open, place{len(l), left}, place{len(l), right})
		case segment, retarder:
			open = append(open, place{len(l), none})
		}
		l = append(l, randomElement(r, kind, p.parent, p.side))
	}
	for i, n := range r.Perm(len(l)) {
		letter := string(rune('a' + r.IntN(26)))
		l[i].Name = fmt.Sprintf("%s%d", strings.Repeat(letter, r.IntN(10)), n)
	}
	return l
}

// integers returns numbers around the ranges of the parts of an element, numbers that look like them in 32 bits, and the ends of int.
func integers() []int {
	l := []int{math.MinInt, math.MinInt + 1, math.MaxInt, math.MaxInt - 1, 1<<32 + 1, 1<<32 + 2, -1 << 32}
	for _, n := range []int{0, 1, 2, 3, 4, 5, 12, 32, 128, 5000, 10000, 16384, 1000000, 1000000000} {
		l = append(l, n-1, n, n+1, -n-1, -n, -n+1)
	}
	return l
}

func random(stream uint64) *rand.Rand {
	return rand.New(rand.NewPCG(9, stream))
}
