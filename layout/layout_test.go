package layout_test

import (
	"bytes"
	"fmt"
	"slices"
	"strings"
	"testing"

	"humpyard/api"
	"humpyard/layout"
)

// yard is a hump with each kind of element: two switches, of which one is behind the other, and three tracks.
func yard() []api.Element {
	return []api.Element{
		{Kind: crest, Name: "c", Parent: -1},
		{Kind: segment, Name: "ramp", Parent: 0, Length: 1, Grade: 10000, Curve: 0},
		{Kind: retarder, Name: "r1", Parent: 1, Length: 15000, Grade: 1000, Curve: 7, Power: 4000000},
		{Kind: points, Name: "w1", Parent: 2, Length: 9000, Grade: 0, Curve: 5000},
		{Kind: points, Name: "w2", Parent: 3, Side: right, Length: 9000, Grade: 250, Curve: 60},
		{Kind: track, Name: "t1", Parent: 3, Side: left, Length: 1000000, Grade: -10000, Curve: 1},
		{Kind: track, Name: "t3", Parent: 4, Side: right, Length: 600000, Grade: -5, Curve: 0},
		{Kind: track, Name: "t2", Parent: 4, Side: left, Length: 600001, Grade: 5, Curve: 20},
	}
}

const yardText = "crest c\n" +
	"segment ramp c 1 10000 0\n" +
	"retarder r1 ramp 15000 1000 7 4000000\n" +
	"switch w1 r1 9000 0 5000\n" +
	"switch w2 w1:right 9000 250 60\n" +
	"track t1 w1:left 1000000 -10000 1\n" +
	"track t3 w2:right 600000 -5 0\n" +
	"track t2 w2:left 600001 5 20\n"

// shortest is the layout of a crest and a track.
func shortest() []api.Element {
	return []api.Element{{Kind: crest, Name: "c", Parent: -1}, {Kind: track, Name: "t", Parent: 0, Length: 1}}
}

// chain is a layout of n elements in a row, with no switch.
func chain(n int) []api.Element {
	l := []api.Element{{Kind: crest, Name: "c", Parent: -1}}
	for i := 1; i < n; i++ {
		x := api.Element{Kind: segment, Name: fmt.Sprintf("s%d", i), Parent: i - 1, Length: i}
		if i == n-1 {
			x.Kind = track
		}
		l = append(l, x)
	}
	return l
}

// comb is a layout of n tracks: the left side of each switch is a track, the right side the next switch.
func comb(n int) []api.Element {
	l := []api.Element{{Kind: crest, Name: "c", Parent: -1}}
	parent, side := 0, none
	for i := 1; i < n; i++ {
		l = append(l, api.Element{Kind: points, Name: fmt.Sprintf("w%d", i), Parent: parent, Side: side, Length: 1})
		parent, side = len(l)-1, right
		l = append(l, api.Element{Kind: track, Name: fmt.Sprintf("t%d", i), Parent: parent, Side: left, Length: 1})
	}
	return append(l, api.Element{Kind: track, Name: "last", Parent: parent, Side: side, Length: 1})
}

// with returns the yard with a changed element.
func with(i int, change func(x *api.Element)) []api.Element {
	l := yard()
	change(&l[i])
	return l
}

// sameError checks that Valid and Format return an error, and that they leave the list as it was.
func sameError(t *testing.T, l []api.Element, want api.Errno) {
	t.Helper()
	before := slices.Clone(l)
	if e := layout.Valid(l); e != want {
		t.Errorf("Valid of %d elements %+v: error %d, want %d", len(l), l[:min(len(l), 8)], e, want)
	}
	text, e := layout.Format(l)
	if e != want || (text == "") != (e != api.OK) {
		t.Errorf("Format of %d elements %+v: %.60q, error %d, want %d", len(l), l[:min(len(l), 8)], text, e, want)
	}
	if !slices.Equal(l, before) {
		t.Errorf("%+v has become %+v", before, l)
	}
}

// sameAsDefined compares what Valid, Format and, where there is a text, Parse return with what they must return.
func sameAsDefined(t *testing.T, l []api.Element) {
	t.Helper()
	sameError(t, l, valid(l))
	want, wantError := format(l)
	if text, e := layout.Format(l); text != want || e != wantError {
		t.Errorf("Format(%+v): %q, error %d; want %q, error %d", l, text, e, want, wantError)
	}
	if wantError == api.OK {
		sameParse(t, want, parsed{l, 0, api.OK})
	}
}

// P9.1

func TestP9_1Valid(t *testing.T) {
	for _, l := range [][]api.Element{yard(), shortest(), chain(3), comb(2), comb(3)} {
		sameError(t, l, api.OK)
	}
	r := random(1)
	for i := range 2000 {
		l := randomLayout(r, 1+i%120)
		if valid(l) != api.OK {
			t.Fatalf("%+v is no layout", l)
		}
		sameAsDefined(t, l)
	}
}

func TestP9_1ValidNumberOfElements(t *testing.T) {
	sameError(t, nil, api.ErrMissing)
	sameError(t, []api.Element{}, api.ErrMissing)
	for _, n := range []int{2, 3, 127, 128} {
		sameError(t, chain(n), api.OK)
	}
	for _, n := range []int{129, 130, 1000} {
		sameError(t, chain(n), api.ErrLimit)
		// the limit comes before all that is wrong with the elements
		sameError(t, make([]api.Element, n), api.ErrLimit)
		sameError(t, slices.Repeat(yard(), n), api.ErrLimit)
	}
	sameError(t, make([]api.Element, 128), api.ErrInvalid)
}

// Each number of each element of the yard, at the ends of its range and beyond.
func TestP9_1ValidSound(t *testing.T) {
	for i := range yard() {
		for _, n := range integers() {
			sameAsDefined(t, with(i, func(x *api.Element) { x.Kind = n }))
			sameAsDefined(t, with(i, func(x *api.Element) { x.Parent = n }))
			sameAsDefined(t, with(i, func(x *api.Element) { x.Side = n }))
			sameAsDefined(t, with(i, func(x *api.Element) { x.Length = n }))
			sameAsDefined(t, with(i, func(x *api.Element) { x.Grade = n }))
			sameAsDefined(t, with(i, func(x *api.Element) { x.Curve = n }))
			sameAsDefined(t, with(i, func(x *api.Element) { x.Power = n }))
		}
	}
}

func TestP9_1ValidRanges(t *testing.T) {
	for _, c := range []struct {
		i         int
		set       func(x *api.Element, n int)
		low, high int
	}{
		{0, func(x *api.Element, n int) { x.Parent = n }, -1, -1},
		{0, func(x *api.Element, n int) { x.Side = n }, 0, 0},
		{0, func(x *api.Element, n int) { x.Length = n }, 0, 0},
		{0, func(x *api.Element, n int) { x.Grade = n }, 0, 0},
		{0, func(x *api.Element, n int) { x.Curve = n }, 0, 0},
		{0, func(x *api.Element, n int) { x.Power = n }, 0, 0},
		{1, func(x *api.Element, n int) { x.Length = n }, 1, 1000000},
		{1, func(x *api.Element, n int) { x.Grade = n }, -10000, 10000},
		{1, func(x *api.Element, n int) { x.Curve = n }, 0, 5000},
		{1, func(x *api.Element, n int) { x.Power = n }, 0, 0},
		{2, func(x *api.Element, n int) { x.Length = n }, 1, 1000000},
		{2, func(x *api.Element, n int) { x.Grade = n }, -10000, 10000},
		{2, func(x *api.Element, n int) { x.Curve = n }, 0, 5000},
		{2, func(x *api.Element, n int) { x.Power = n }, 1, 1000000000},
		{3, func(x *api.Element, n int) { x.Length = n }, 1, 1000000},
		{3, func(x *api.Element, n int) { x.Grade = n }, -10000, 10000},
		{3, func(x *api.Element, n int) { x.Curve = n }, 0, 5000},
		{3, func(x *api.Element, n int) { x.Power = n }, 0, 0},
		{5, func(x *api.Element, n int) { x.Length = n }, 1, 1000000},
		{5, func(x *api.Element, n int) { x.Grade = n }, -10000, 10000},
		{5, func(x *api.Element, n int) { x.Curve = n }, 0, 5000},
		{5, func(x *api.Element, n int) { x.Power = n }, 0, 0},
	} {
		for _, n := range []int{c.low, c.high} {
			sameError(t, with(c.i, func(x *api.Element) { c.set(x, n) }), api.OK)
		}
		for _, n := range []int{c.low - 1, c.high + 1} {
			sameError(t, with(c.i, func(x *api.Element) { c.set(x, n) }), api.ErrInvalid)
		}
	}
}

func TestP9_1ValidName(t *testing.T) {
	for i := range yard() {
		for _, s := range []string{"a", "z", "0", "9", "t9", "9t", "000", "left", "crest", "abcdefghijkl", "zzzzzzzzzzzz", "999999999999"} {
			sameError(t, with(i, func(x *api.Element) { x.Name = s }), api.OK)
		}
		for _, s := range []string{"", "`", "{", "/", ":", "A", "Z", " ", "-", "_", "#", "\n", "\x00", "\xff", "Ab", "aB", "a b", " a", "a ", "a:left", "ä", "\u0663", "\uff41", "abcdefghijklm", "Abcdefghijkl", strings.Repeat("a", 256+12), strings.Repeat("a", 1<<20)} {
			sameError(t, with(i, func(x *api.Element) { x.Name = s }), api.ErrInvalid)
		}
	}
}

// Each byte at each place of names of all lengths.
func TestP9_1ValidNameBytes(t *testing.T) {
	for n := 1; n < 16; n++ {
		for at := range n {
			for c := range 256 {
				b := bytes.Repeat([]byte{'m'}, n)
				b[at] = byte(c)
				want := api.ErrInvalid
				if n <= 12 && ('a' <= c && c <= 'z' || '0' <= c && c <= '9') {
					want = api.OK
				}
				sameError(t, with(0, func(x *api.Element) { x.Name = string(b) }), want)
				if string(b) != yard()[0].Name {
					sameError(t, with(7, func(x *api.Element) { x.Name = string(b) }), want)
				}
			}
		}
	}
}

func TestP9_1ValidCrest(t *testing.T) {
	c := yard()[0]
	sameError(t, yard()[1:], api.ErrInvalid)
	sameError(t, yard()[5:6], api.ErrInvalid)
	for i := 1; i < len(yard()); i++ {
		// a second crest, with a name of its own or with that of the first one, and a crest that is moved
		sameError(t, with(i, func(x *api.Element) { *x = api.Element{Kind: crest, Name: x.Name, Parent: -1} }), api.ErrInvalid)
		sameError(t, with(i, func(x *api.Element) { *x = c }), api.ErrInvalid)
		l := yard()
		l[0], l[i] = l[i], l[0]
		sameError(t, l, api.ErrInvalid)
	}
}

func TestP9_1ValidDuplicate(t *testing.T) {
	for i := range yard() {
		for k := range i {
			sameError(t, with(i, func(x *api.Element) { x.Name = yard()[k].Name }), api.ErrDuplicate)
		}
	}
	l := chain(128)
	l[127].Name = "c"
	sameError(t, l, api.ErrDuplicate)
	l[127].Name = l[126].Name
	sameError(t, l, api.ErrDuplicate)
}

func TestP9_1ValidOrder(t *testing.T) {
	for i := 1; i < len(yard()); i++ {
		for _, parent := range append(integers(), i, i+1, 7, 8) {
			if parent < 0 || parent >= i {
				sameError(t, with(i, func(x *api.Element) { x.Parent = parent }), api.ErrOrder)
			}
		}
	}
}

func TestP9_1ValidConflict(t *testing.T) {
	for _, c := range []struct{ i, parent, side int }{
		// the parent is a track
		{7, 5, none}, {7, 5, left}, {7, 6, right},
		// the parent is a switch, without a side
		{7, 4, none}, {5, 3, none},
		// the parent is no switch, with a side
		{1, 0, left}, {1, 0, right}, {2, 1, left}, {3, 2, right}, {7, 0, left}, {7, 1, right}, {7, 2, left},
		// the place is taken
		{2, 0, none}, {3, 0, none}, {3, 1, none}, {7, 0, none}, {7, 1, none}, {7, 2, none}, {7, 4, right}, {6, 3, right}, {6, 3, left}, {7, 3, left}, {5, 3, right},
	} {
		sameError(t, with(c.i, func(x *api.Element) { x.Parent, x.Side = c.parent, c.side }), api.ErrConflict)
	}
}

func TestP9_1ValidMissingChild(t *testing.T) {
	for n := 1; n < 8; n++ {
		sameError(t, yard()[:n], api.ErrMissing)
	}
	for _, kind := range []int{segment, retarder, points} {
		for _, i := range []int{5, 6, 7} {
			sameError(t, with(i, func(x *api.Element) {
				x.Kind = kind
				if kind == retarder {
					x.Power = 1
				}
			}), api.ErrMissing)
		}
	}
	// a switch with one child, on either side
	for _, side := range []int{left, right} {
		sameError(t, []api.Element{{Kind: crest, Name: "c", Parent: -1}, {Kind: points, Name: "w", Length: 1}, {Kind: track, Name: "t", Parent: 1, Side: side, Length: 1}}, api.ErrMissing)
	}
}

func TestP9_1ValidTracks(t *testing.T) {
	for n, want := range map[int]api.Errno{1: api.OK, 2: api.OK, 31: api.OK, 32: api.OK, 33: api.ErrLimit, 34: api.ErrLimit, 64: api.ErrLimit} {
		sameError(t, comb(n), want)
		// a child that is missing comes before too many tracks
		l := comb(n)
		l[len(l)-1].Kind = segment
		sameError(t, l, api.ErrMissing)
	}
}

// Every choice of the errors of an element: the first one in the order of P9.1 is returned.
func TestP9_1ValidErrorsOfAnElement(t *testing.T) {
	spoils := []struct {
		spoil func(x *api.Element)
		e     api.Errno
	}{
		{func(x *api.Element) { x.Length = 0 }, api.ErrInvalid},
		{func(x *api.Element) { x.Name = "t1" }, api.ErrDuplicate},
		{func(x *api.Element) { x.Parent = 7 }, api.ErrOrder},
		{func(x *api.Element) { x.Side = none }, api.ErrConflict},
		{func(x *api.Element) { x.Kind = points }, api.ErrMissing},
	}
	for set := range 1 << len(spoils) {
		want := api.OK
		l := with(7, func(x *api.Element) {
			for i, s := range slices.Backward(spoils) {
				if set>>i&1 == 1 {
					s.spoil(x)
					want = s.e
				}
			}
		})
		sameError(t, l, want)
	}
}

// The errors of an element come before those of the elements behind it and those at the end.
func TestP9_1ValidErrorsOfElements(t *testing.T) {
	spoils := []func(x *api.Element){
		func(x *api.Element) { x.Curve = -1 },
		func(x *api.Element) { x.Name = "c" },
		func(x *api.Element) { x.Parent = -1 },
		func(x *api.Element) { x.Parent, x.Side = 0, left },
		func(x *api.Element) { x.Kind = segment },
	}
	want := []api.Errno{api.ErrInvalid, api.ErrDuplicate, api.ErrOrder, api.ErrConflict}
	for later := range yard() {
		for i := 1; i < later; i++ {
			for a, spoil := range spoils[:4] {
				for _, other := range spoils {
					l := yard()
					spoil(&l[i])
					other(&l[later])
					sameError(t, l, want[a])
				}
			}
		}
	}
	// an error of an element in a list with too many tracks, and one that comes before a child that is missing
	for a, spoil := range spoils[:4] {
		l := comb(40)
		spoil(&l[70])
		sameError(t, l, want[a])
		l = comb(40)
		spoil(&l[70])
		l[75].Kind = segment
		sameError(t, l, want[a])
	}
}

// All lists of up to three elements, with numbers around those that make a layout.
func TestP9_1ValidSmall(t *testing.T) {
	var all []api.Element
	for kind := range 5 {
		for parent := -1; parent < 4; parent++ {
			for side := range 3 {
				for _, s := range []string{"a", "b", "c"} {
					x := api.Element{Kind: kind, Name: s, Parent: parent, Side: side}
					if kind != crest {
						x.Length = 1
					}
					if kind == retarder {
						x.Power = 1
					}
					all = append(all, x)
				}
			}
		}
	}
	first := all[0]
	for _, x := range all {
		sameAsDefined(t, []api.Element{x})
		sameAsDefined(t, []api.Element{first, x})
		for _, y := range all {
			sameAsDefined(t, []api.Element{first, x, y})
		}
	}
}

// Valid layouts in which a few numbers or names are replaced, or elements are left out, doubled or exchanged.
func TestP9_1ValidSpoilt(t *testing.T) {
	r := random(2)
	numbers := integers()
	for range 30000 {
		l := randomLayout(r, 1+r.IntN(20))
		for range 1 + r.IntN(3) {
			i, k := r.IntN(len(l)), r.IntN(len(l))
			x := &l[i]
			switch r.IntN(10) {
			case 0:
				x.Kind = r.IntN(7) - 1
			case 1:
				x.Name = l[k].Name
			case 2:
				x.Parent = r.IntN(len(l)+2) - 1
			case 3:
				x.Side = r.IntN(5) - 1
			case 4:
				x.Length = numbers[r.IntN(len(numbers))]
			case 5:
				x.Power = numbers[r.IntN(len(numbers))]
			case 6:
				l = slices.Insert(l, k, *x)
			case 7:
				l[i], l[k] = l[k], l[i]
			case 8:
				x.Parent, x.Side = l[k].Parent, l[k].Side
			default:
				if len(l) > 1 {
					l = slices.Delete(l, i, i+1)
				}
			}
		}
		sameAsDefined(t, l)
	}
}

// P9.2

func TestP9_2Format(t *testing.T) {
	for _, c := range []struct {
		l    []api.Element
		text string
	}{
		{yard(), yardText},
		{shortest(), "crest c\ntrack t c 1 0 0\n"},
		{chain(4), "crest c\nsegment s1 c 1 0 0\nsegment s2 s1 2 0 0\ntrack s3 s2 3 0 0\n"},
		{comb(3), "crest c\nswitch w1 c 1 0 0\ntrack t1 w1:left 1 0 0\nswitch w2 w1:right 1 0 0\ntrack t2 w2:left 1 0 0\ntrack last w2:right 1 0 0\n"},
		// the names are those of a text, and the numbers those at the ends of their ranges
		{[]api.Element{
			{Kind: crest, Name: "crest", Parent: -1},
			{Kind: retarder, Name: "abcdefghijkl", Length: 1000000, Grade: -10000, Curve: 5000, Power: 1000000000},
			{Kind: retarder, Name: "0", Parent: 1, Length: 1, Grade: 10000, Curve: 0, Power: 1},
			{Kind: points, Name: "track", Parent: 2, Length: 1000000, Grade: 10000, Curve: 5000},
			{Kind: track, Name: "right", Parent: 3, Side: left, Length: 1, Grade: -1, Curve: 1},
			{Kind: track, Name: "left", Parent: 3, Side: right, Length: 10, Grade: 1, Curve: 10},
		}, "crest crest\nretarder abcdefghijkl crest 1000000 -10000 5000 1000000000\nretarder 0 abcdefghijkl 1 10000 0 1\nswitch track 0 1000000 10000 5000\ntrack right track:left 1 -1 1\ntrack left track:right 10 1 10\n"},
	} {
		if text, e := layout.Format(c.l); text != c.text || e != api.OK {
			t.Errorf("Format(%+v): %q, error %d; want %q", c.l, text, e, c.text)
		}
		sameParse(t, c.text, parsed{c.l, 0, api.OK})
		sameAsDefined(t, c.l)
	}
}

// Each error of Valid, with no text beside it.
func TestP9_2FormatErrors(t *testing.T) {
	for _, c := range []struct {
		l []api.Element
		e api.Errno
	}{
		{nil, api.ErrMissing}, {chain(129), api.ErrLimit}, {comb(33), api.ErrLimit}, {yard()[:7], api.ErrMissing}, {yard()[1:], api.ErrInvalid},
		{with(7, func(x *api.Element) { x.Power = 1 }), api.ErrInvalid}, {with(7, func(x *api.Element) { x.Name = "c" }), api.ErrDuplicate},
		{with(7, func(x *api.Element) { x.Parent = 7 }), api.ErrOrder}, {with(7, func(x *api.Element) { x.Side = right }), api.ErrConflict},
	} {
		if text, e := layout.Format(c.l); text != "" || e != c.e {
			t.Errorf("Format(%+v): %q, error %d; want no text, error %d", c.l, text, e, c.e)
		}
	}
}

// Every number that the parts of an element can have near the ends of their ranges, and random ones, is written and read again.
func TestP9_2FormatNumbers(t *testing.T) {
	r := random(3)
	for n := -300; n <= 300; n++ {
		for _, x := range []api.Element{
			{Length: 301 + n, Grade: n, Curve: 300 + n, Power: 301 + n},
			{Length: 1000000 - 300 + n, Grade: -10000 + 300 + n, Curve: 5000 - 300 + n, Power: 1000000000 - 300 + n},
			{Length: 1 + r.IntN(1000000), Grade: r.IntN(20001) - 10000, Curve: r.IntN(5001), Power: 1 + r.IntN(1000000000)},
		} {
			l := shortest()
			x.Name, x.Kind = "r", retarder
			l = slices.Insert(l, 1, x)
			l[2].Parent = 1
			want := fmt.Sprintf("crest c\nretarder r c %d %d %d %d\ntrack t r 1 0 0\n", x.Length, x.Grade, x.Curve, x.Power)
			if text, e := layout.Format(l); text != want || e != api.OK {
				t.Errorf("Format(%+v): %q, error %d; want %q", l, text, e, want)
			}
			sameParse(t, want, parsed{l, 0, api.OK})
		}
	}
}

// The longest text of a layout can be read again.
func TestP9_2FormatLongest(t *testing.T) {
	l := chain(128)
	for i := range l {
		l[i].Name = fmt.Sprintf("n%011d", i)
		if i > 0 && i < 127 {
			l[i] = api.Element{Kind: retarder, Name: l[i].Name, Parent: i - 1, Length: 1000000, Grade: -10000, Curve: 5000, Power: 1000000000}
		}
	}
	sameAsDefined(t, l)
}
