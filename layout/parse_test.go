package layout_test

import (
	"fmt"
	"slices"
	"strings"
	"testing"

	"humpyard/api"
	"humpyard/layout"
)

// P9.3

func sameParse(t *testing.T, text string, want parsed) {
	t.Helper()
	l, line, e := layout.Parse(text)
	if !slices.Equal(l, want.l) || line != want.line || e != want.e {
		t.Errorf("Parse(%.300q): %+v, line %d, error %d; want %+v, line %d, error %d", text, l, line, e, want.l, want.line, want.e)
	}
}

func parseAsDefined(t *testing.T, text string) {
	t.Helper()
	sameParse(t, text, parse(text))
}

func sameParseError(t *testing.T, text string, line int, e api.Errno) {
	t.Helper()
	sameParse(t, text, parsed{nil, line, e})
	parseAsDefined(t, text)
}

func TestP9_3Examples(t *testing.T) {
	sameParseError(t, "crest c\nswitch w c 9000 1000 50\ntrack t1 w:left 500000 -100 0", 0, api.ErrMissing)
	sameParseError(t, "segment s c 10 0", 1, api.ErrSyntax)
	sameParseError(t, "track t c 010 0 0", 1, api.ErrSyntax)
	sameParse(t, "crest c\nswitch w c 9000 1000 50\ntrack t1 w:left 500000 -100 0\ntrack t2 w:right 1 0 0", parsed{[]api.Element{
		{Kind: crest, Name: "c", Parent: -1}, {Kind: points, Name: "w", Length: 9000, Grade: 1000, Curve: 50},
		{Kind: track, Name: "t1", Parent: 1, Side: left, Length: 500000, Grade: -100}, {Kind: track, Name: "t2", Parent: 1, Side: right, Length: 1},
	}, 0, api.OK})
}

func TestP9_3Parse(t *testing.T) {
	want := parsed{yard(), 0, api.OK}
	for _, text := range []string{
		yardText,
		strings.TrimSuffix(yardText, "\n"),
		yardText + "\n", "\n\n" + yardText + "\n\n\n", strings.ReplaceAll(yardText, "\n", "\n\n"),
		yardText + " ", yardText + "   \n  ", "  \n" + yardText,
		strings.ReplaceAll(yardText, " ", "   "), strings.ReplaceAll(yardText, "\n", "  \n"), "  " + strings.ReplaceAll(yardText, "\n", "\n "),
		"#\n" + yardText + "#", "# a comment\n" + strings.ReplaceAll(yardText, "\n", "\n#crest c\n"), "   ## crest\n" + yardText + "  #\ttrack \xff\x00\r\n#",
		strings.ReplaceAll(yardText, "\n", "\n # track t1 w1:left 1 0 0\n \n"),
	} {
		sameParse(t, text, want)
		parseAsDefined(t, text)
	}
}

// Only a first word that begins with # makes a comment.
func TestP9_3Comments(t *testing.T) {
	for _, c := range []struct {
		text string
		line int
		e    api.Errno
	}{
		{"crest c #\ntrack t c 1 0 0", 1, api.ErrSyntax}, {"crest c#\ntrack t c 1 0 0", 1, api.ErrName}, {"crest #\ntrack t c 1 0 0", 1, api.ErrName}, {"crest #c\ntrack t c 1 0 0", 1, api.ErrName},
		{"crest# c\ntrack t c 1 0 0", 1, api.ErrSyntax}, {"\t# tab\ncrest c\ntrack t c 1 0 0", 1, api.ErrSyntax}, {"crest c\ntrack t c 1 0 0 # the only one", 2, api.ErrSyntax}, {"crest c\ntrack t c 1 0 #0", 2, api.ErrSyntax},
		// what a comment names is not defined
		{"crest c\n# d\ntrack t d 1 0 0", 3, api.ErrName}, {"#crest d\ncrest c\ntrack t d 1 0 0", 3, api.ErrName},
	} {
		sameParseError(t, c.text, c.line, c.e)
	}
}

// The numbers of lines count those that are passed over.
func TestP9_3LineNumbers(t *testing.T) {
	for _, lines := range []string{"", "\n", "\n\n", "#\n", "# x\n   \n\n#crest c 1\n"} {
		n := strings.Count(lines, "\n")
		sameParseError(t, lines, 0, api.ErrMissing)
		sameParseError(t, lines+"x", n+1, api.ErrSyntax)
		sameParseError(t, lines+"x\n", n+1, api.ErrSyntax)
		sameParseError(t, lines+"crest C", n+1, api.ErrName)
		sameParseError(t, "crest c\n"+lines+"track t c 1000000001 0 0\n"+lines+"x", n+2, api.ErrRange)
		sameParseError(t, lines+"crest c\n"+lines+"track t c 0 0 0\n"+lines, 0, api.ErrInvalid)
		sameParse(t, lines+"crest c\n"+lines+"track t c 1 0 0\n"+lines, parsed{shortest(), 0, api.OK})
	}
	sameParseError(t, strings.Repeat("\n", 16383)+"x", 16384, api.ErrSyntax)
	sameParseError(t, strings.Repeat("\n", 16384), 0, api.ErrMissing)
}

// Each line of the yard with a word less, a word more, or a word in a wrong place.
func TestP9_3Words(t *testing.T) {
	lines := strings.Split(strings.TrimSuffix(yardText, "\n"), "\n")
	for i, s := range lines {
		words := strings.Split(s, " ")
		replaced := func(words []string) string {
			return strings.Join(slices.Concat(lines[:i], []string{strings.Join(words, " ")}, lines[i+1:]), "\n")
		}
		for k := range words {
			text := replaced(slices.Delete(slices.Clone(words), k, k+1))
			sameParseError(t, text, i+1, api.ErrSyntax)
		}
		for k := range len(words) + 1 {
			for _, word := range []string{"0", "7", "c", "crest", "#"} {
				text := replaced(slices.Insert(slices.Clone(words), k, word))
				parseAsDefined(t, text)
				if k > 0 || word != "#" {
					sameParseError(t, text, i+1, api.ErrSyntax)
				}
			}
		}
		for k := range words {
			for _, word := range []string{"crest", "segment", "retarder", "switch", "track", "Crest", "tracks", "trac", "crest:", "c", "w1:left", "w1:right", "w2", "x", "#x", "", "0", "-0", "00", "1", "-1", "+1", "1.0", "1e3", "0x1", "1_0", "1000000000", "1000000001", "-1000000000", "-1000000001"} {
				changed := slices.Clone(words)
				changed[k] = word
				parseAsDefined(t, replaced(changed))
			}
		}
	}
}

// In the place of a number, all words of up to three bytes that look like one, and others.
func TestP9_3NumberForms(t *testing.T) {
	words := []string{"01", "-01", "--1", "- 1", "1-", "+0", "1.", ".1", "1,0", "1_000", "0x10", "0b1", "0o7", "1e2", "١", "１", "\xff", "\x00", "1\x00", "1\t", "1\r", "0\v", "−1", "a", "inf", "nan"}
	const letters = "0159-+ax."
	for _, a := range letters {
		words = append(words, string(a))
		for _, b := range letters {
			words = append(words, string([]rune{a, b}))
			for _, c := range letters {
				words = append(words, string([]rune{a, b, c}))
			}
		}
	}
	for _, s := range words {
		for _, text := range []string{"crest c\nretarder r c %s 0 0 1\ntrack t r 1 0 0", "crest c\nretarder r c 1 %s 0 1\ntrack t r 1 0 0", "crest c\nretarder r c 1 0 %s 1\ntrack t r 1 0 0", "crest c\nretarder r c 1 0 0 %s\ntrack t r 1 0 0"} {
			parseAsDefined(t, fmt.Sprintf(text, s))
		}
	}
	for _, s := range []string{"-", "+", "", "-0", "+0", "00", "01", "-01", "+1", "--1", "1-", "1x", "x1", "1.0", "1e3", "0x1", "1_0", "１"} {
		sameParseError(t, fmt.Sprintf("crest c\ntrack t c 1 %s 0", s), 2, api.ErrSyntax)
	}
}

func TestP9_3Range(t *testing.T) {
	inside := []string{"1000000000", "-1000000000", "999999999", "-999999999"}
	beyond := []string{"1000000001", "-1000000001", "2147483648", "4294967297", "-4294967296", "9223372036854775807", "9223372036854775808", "-9223372036854775808", "-9223372036854775809", "18446744073709551617", "1" + strings.Repeat("0", 100), "-" + strings.Repeat("9", 10000)}
	for _, form := range []string{"crest c\nretarder r c %s 0 0 1\ntrack t r 1 0 0", "crest c\nretarder r c 1 %s 0 1\ntrack t r 1 0 0", "crest c\nretarder r c 1 0 %s 1\ntrack t r 1 0 0", "crest c\nretarder r c 1 0 0 %s\ntrack t r 1 0 0", "crest c\ntrack r c 1 0 %s\n"} {
		for _, s := range inside {
			text := fmt.Sprintf(form, s)
			parseAsDefined(t, text)
			if _, line, e := layout.Parse(text); line != 0 || e != api.OK && e != api.ErrInvalid {
				t.Errorf("Parse(%q): line %d, error %d", text, line, e)
			}
		}
		for _, s := range beyond {
			sameParseError(t, fmt.Sprintf(form, s), 2, api.ErrRange)
		}
	}
	sameParse(t, "crest c\nretarder r c 1000000 10000 5000 1000000000\ntrack t r 1 -10000 0", parsed{[]api.Element{
		{Kind: crest, Name: "c", Parent: -1}, {Kind: retarder, Name: "r", Length: 1000000, Grade: 10000, Curve: 5000, Power: 1000000000}, {Kind: track, Name: "t", Parent: 1, Length: 1, Grade: -10000},
	}, 0, api.OK})
}

func TestP9_3Names(t *testing.T) {
	for _, s := range []string{"a", "9", "abcdefghijkl", "000000000000", "left", "right", "crest", "track"} {
		sameParse(t, fmt.Sprintf("crest %s\ntrack %sx %s 1 0 0", s, s[:min(len(s), 11)], s), parsed{[]api.Element{{Kind: crest, Name: s, Parent: -1}, {Kind: track, Name: s[:min(len(s), 11)] + "x", Length: 1}}, 0, api.OK})
	}
	for _, s := range []string{"A", "a.", ".a", "a:", ":", "a:left", ":right", "abcdefghijklm", "ä", "\xff", "a\x00", "a\t", "\ta", "a\r", "_", "#a", "-1", strings.Repeat("a", 5000)} {
		sameParseError(t, "crest "+s+"\n", 1, api.ErrName)
		sameParseError(t, "crest "+s+"\ntrack t "+s+" 1 0 0", 1, api.ErrName)
		for _, kind := range []string{"segment %s c 1 0 0", "retarder %s c 1 0 0 1", "switch %s c 1 0 0", "track %s c 1 0 0"} {
			sameParseError(t, "crest c\n"+fmt.Sprintf(kind, s), 2, api.ErrName)
		}
	}
}

func TestP9_3Parents(t *testing.T) {
	const head = "crest c\nsegment left c 1 0 0\nswitch w left 1 0 0\n"
	for _, s := range []string{"x", "t", "t2", "t2:right", "w2", "W", "w.", "w:", "w:Left", "w:lef", "w:leftx", "w:up", "w:left:left", "w:left:right", "w:right:left", "w::left", ":left", ":right", ":", "left:", "wleft", "w-left", "w:\tleft", "w:left\r", "right", "crest", "-1", "0", "#", "\xff", "cc", strings.Repeat("w", 1000)} {
		sameParseError(t, head+"track t "+s+" 1 0 0\ntrack t2 w:right 1 0 0\n", 4, api.ErrName)
	}
	for s, e := range map[string]api.Errno{"w:left": api.OK, "w:right": api.ErrConflict, "w": api.ErrConflict, "c": api.ErrConflict, "c:left": api.ErrConflict, "c:right": api.ErrConflict, "left": api.ErrConflict, "left:left": api.ErrConflict, "left:right": api.ErrConflict} {
		text := head + "track t " + s + " 1 0 0\ntrack t2 w:right 1 0 0\n"
		parseAsDefined(t, text)
		if _, line, got := layout.Parse(text); line != 0 || got != e {
			t.Errorf("Parse(%q): line %d, error %d, want %d", text, line, got, e)
		}
	}
	// a name that is defined in a later line, or in the same one
	sameParseError(t, "track t c 1 0 0\ncrest c", 1, api.ErrName)
	sameParseError(t, "crest c\ntrack t s 1 0 0\nsegment s c 1 0 0", 2, api.ErrName)
	sameParseError(t, "crest c\nsegment s s 1 0 0", 2, api.ErrName)
	// children stand anywhere behind their parents
	sameParse(t, "crest c\nswitch w c 1 0 0\nsegment s w:right 1 0 0\ntrack t2 s 1 0 0\ntrack t1 w:left 1 0 0", parsed{[]api.Element{
		{Kind: crest, Name: "c", Parent: -1}, {Kind: points, Name: "w", Length: 1}, {Kind: segment, Name: "s", Parent: 1, Side: right, Length: 1},
		{Kind: track, Name: "t2", Parent: 2, Length: 1}, {Kind: track, Name: "t1", Parent: 1, Side: left, Length: 1},
	}, 0, api.OK})
}

// Names that are used twice: the lines have no error, and the layout has that of the second one.
func TestP9_3Duplicates(t *testing.T) {
	sameParseError(t, "crest c\ntrack c c 1 0 0", 0, api.ErrDuplicate)
	sameParseError(t, "crest c\nsegment s c 1 0 0\nsegment s s 1 0 0\ntrack t s 1 0 0", 0, api.ErrDuplicate)
	sameParseError(t, "crest c\nswitch w c 1 0 0\ntrack t w:left 1 0 0\ntrack t w:right 1 0 0\ntrack u t 1 0 0", 0, api.ErrDuplicate)
	sameParseError(t, "crest c\ncrest c", 0, api.ErrInvalid)
	sameParseError(t, "crest c\ncrest d", 0, api.ErrInvalid)
	sameParseError(t, "crest c\nsegment s c 1 0 0\ncrest d\ntrack t s 1 0 0", 0, api.ErrInvalid)
}

// Every choice of the errors of a line: the first one in the order of P9.3 is returned.
func TestP9_3ErrorsOfALine(t *testing.T) {
	spoils := []struct {
		word int
		with string
		e    api.Errno
	}{
		{0, "hump", api.ErrSyntax}, {5, "x", api.ErrSyntax}, {6, "09", api.ErrSyntax}, {3, "1000000001", api.ErrRange}, {4, "-99999999999999999999", api.ErrRange}, {1, "R", api.ErrName}, {2, "r", api.ErrName},
	}
	for set := range 1 << len(spoils) {
		words := []string{"retarder", "r", "c", "1", "0", "0", "1"}
		line, want := 3, api.ErrSyntax
		for i, s := range slices.Backward(spoils) {
			if set>>i&1 == 1 {
				words[s.word] = s.with
				line, want = 2, s.e
			}
		}
		sameParseError(t, "crest c\n"+strings.Join(words, " ")+"\ntrack t r 1 0", line, want)
	}
}

// The errors of a line come before those of the lines behind it, and all of them before those of the layout.
func TestP9_3ErrorsOfLines(t *testing.T) {
	spoilt := []struct {
		line string
		e    api.Errno
	}{
		{"hump h", api.ErrSyntax}, {"track t c 1 0", api.ErrSyntax}, {"track t c 1 0 00", api.ErrSyntax}, {"track t c 1 0 2000000000", api.ErrRange}, {"track T c 1 0 0", api.ErrName}, {"track t x 1 0 0", api.ErrName},
	}
	for _, first := range spoilt {
		for _, second := range spoilt {
			for _, between := range []string{"", "\n", "#\n", "segment s c 0 0 0\n", "segment c c 1 0 0\n", "crest d\n"} {
				text := "crest c\n" + between + first.line + "\n" + between + second.line
				sameParseError(t, text, 2+strings.Count(between, "\n"), first.e)
			}
		}
		// too many elements, or none that is valid, before the line
		sameParseError(t, strings.Repeat("crest c\n", 200)+first.line, 201, first.e)
		l := chain(129)
		sameParseError(t, written(l)+first.line, 130, first.e)
		l = comb(40)
		sameParseError(t, written(l)+first.line, len(l)+1, first.e)
	}
}

func TestP9_3Limits(t *testing.T) {
	fill := func(n int) string { return yardText + "#" + strings.Repeat("x", n-len(yardText)-1) }
	sameParse(t, fill(16384), parsed{yard(), 0, api.OK})
	for _, n := range []int{16385, 16386, 1 << 20} {
		sameParseError(t, fill(n), 0, api.ErrLimit)
		sameParseError(t, strings.Repeat(" ", n), 0, api.ErrLimit)
		sameParseError(t, strings.Repeat("\n", n), 0, api.ErrLimit)
		sameParseError(t, strings.Repeat("x\n", n), 0, api.ErrLimit)
	}
	sameParseError(t, strings.Repeat(" ", 16384), 0, api.ErrMissing)
	sameParseError(t, strings.Repeat("x", 16384), 1, api.ErrSyntax)
	sameParseError(t, strings.Repeat("x", 16385), 0, api.ErrLimit)
	// a byte 10 at the end counts as a byte
	sameParse(t, fill(16383)+"\n", parsed{yard(), 0, api.OK})
	sameParseError(t, fill(16384)+"\n", 0, api.ErrLimit)

	for _, n := range []int{2, 127, 128} {
		sameParse(t, written(chain(n)), parsed{chain(n), 0, api.OK})
	}
	sameParseError(t, written(chain(129)), 0, api.ErrLimit)
	sameParseError(t, strings.Repeat("crest c\n", 2048), 0, api.ErrLimit)
	sameParseError(t, strings.Repeat("crest c\n", 128), 0, api.ErrInvalid)
	sameParse(t, written(comb(32)), parsed{comb(32), 0, api.OK})
	sameParseError(t, written(comb(33)), 0, api.ErrLimit)
}

// Each error of Valid, at the end and with the line 0.
func TestP9_3ErrorOfValid(t *testing.T) {
	for _, c := range []struct {
		text string
		e    api.Errno
	}{
		{"", api.ErrMissing}, {"\n", api.ErrMissing}, {"crest c", api.ErrMissing}, {"crest c\nsegment s c 1 0 0\n", api.ErrMissing}, {"crest c\nretarder r c 1 0 0 1\n", api.ErrMissing}, {"crest c\nswitch w c 1 0 0\ntrack t w:left 1 0 0\n", api.ErrMissing},
		{"crest c\ntrack t c 0 0 0", api.ErrInvalid}, {"crest c\ntrack t c 1000001 0 0", api.ErrInvalid}, {"crest c\ntrack t c 1 10001 0", api.ErrInvalid}, {"crest c\ntrack t c 1 -10001 0", api.ErrInvalid}, {"crest c\ntrack t c 1 0 -1", api.ErrInvalid}, {"crest c\ntrack t c 1 0 5001", api.ErrInvalid},
		{"crest c\nretarder r c 1 0 0 0\ntrack t r 1 0 0", api.ErrInvalid}, {"crest c\nretarder r c 1 0 0 -1\ntrack t r 1 0 0", api.ErrInvalid},
		{"crest c\ntrack c c 1 0 0", api.ErrDuplicate}, {"crest c\ntrack t c:left 1 0 0", api.ErrConflict}, {"crest c\ntrack t c 1 0 0\ntrack u c 1 0 0", api.ErrConflict}, {"crest c\ntrack t c 1 0 0\ntrack u t 1 0 0", api.ErrConflict}, {"crest c\nswitch w c 1 0 0\ntrack t w 1 0 0", api.ErrConflict},
	} {
		sameParseError(t, c.text, 0, c.e)
		sameParseError(t, "# \n"+c.text+"\n\n", 0, c.e)
	}
}

// The yard with each byte replaced by each other one, left out, or doubled.
func TestP9_3ParseReplaced(t *testing.T) {
	for i := range len(yardText) {
		for c := range 256 {
			parseAsDefined(t, yardText[:i]+string([]byte{byte(c)})+yardText[i+1:])
		}
		parseAsDefined(t, yardText[:i]+yardText[i+1:])
		parseAsDefined(t, yardText[:i]+yardText[i:i+1]+yardText[i:])
		parseAsDefined(t, yardText[:i])
		parseAsDefined(t, yardText[i:])
	}
}

// Texts of words that stand in any order, and texts of any bytes.
func TestP9_3ParseAny(t *testing.T) {
	r := random(4)
	words := strings.Split("crest|segment|retarder|switch|track|c|w|t|u|c|w:left|w:right|w|0|1|-1|5|1000000000|1000000001|-0|x:left|#|A|\t", "|")
	heads := []string{"", "crest c\n", "crest c\nswitch w c 1 0 0\n"}
	const letters = "crest tack \n\n#:09-\xff\x00"
	for range 30000 {
		text := heads[r.IntN(3)]
		for range r.IntN(4) {
			for range []int{0, 2, 6, 6, 6, 7}[r.IntN(6)] {
				text += words[r.IntN(len(words))] + strings.Repeat(" ", 1+r.IntN(2))
			}
			text += "\n"
		}
		parseAsDefined(t, text)
		b := make([]byte, r.IntN(60))
		for i := range b {
			b[i] = letters[r.IntN(len(letters))]
			if r.IntN(10) == 0 {
				b[i] = byte(r.IntN(256))
			}
		}
		parseAsDefined(t, string(b))
	}
}

// Lines of the right words of each kind, at random: most texts have no line with an error.
func TestP9_3ParseLines(t *testing.T) {
	r := random(5)
	some := func(s string) string {
		l := strings.Split(s, " ")
		return l[r.IntN(len(l))]
	}
	for range 30000 {
		text := some("# crest crest crest crest") + " c\n"
		for range r.IntN(6) {
			kind := some("segment retarder switch switch track track track")
			text += fmt.Sprintf("%s %s %s %s %s %s", kind, some("c w s t u v x y z"), some("c w s t c:left w:left w:right s:right v:left v:right"), some("1 1 1 1 1 1000000 1000001"), some("0 0 0 0 -1 -10001"), some("0 0 0 0 5000 -1"))
			if kind == "retarder" {
				text += " " + some("1 1 1 1 1000000000 0")
			}
			text += []string{"\n", "\n\n", " \n", "\n#\n"}[r.IntN(4)]
		}
		parseAsDefined(t, text)
	}
}

// loosened returns a text with superfluous spaces, empty lines and comments.
func loosened(text string, pick func(n int) int) string {
	loose := ""
	for _, s := range strings.SplitAfter(text, "\n") {
		loose += []string{"", "\n", "  \n", "#\n", " # crest c\n", "#track t\xff 1 0\n"}[pick(6)]
		s = strings.Repeat(" ", pick(3)) + strings.ReplaceAll(s, " ", strings.Repeat(" ", 1+pick(3)))
		loose += strings.ReplaceAll(s, "\n", strings.Repeat(" ", pick(3))+"\n")
	}
	return loose
}

// What is written can be read again, and what is read is written without comments and superfluous spaces.
func TestP9_3ParseAndFormat(t *testing.T) {
	r := random(6)
	for i := range 2000 {
		l := randomLayout(r, 1+i%60)
		text, e := layout.Format(l)
		if e != api.OK {
			t.Fatalf("Format(%+v): error %d", l, e)
		}
		sameParse(t, text, parsed{l, 0, api.OK})
		sameParse(t, strings.TrimSuffix(text, "\n"), parsed{l, 0, api.OK})
		loose := loosened(text, r.IntN)
		read, line, e := layout.Parse(loose)
		if line != 0 || e != api.OK {
			t.Fatalf("Parse(%q): line %d, error %d", loose, line, e)
		}
		if again, e := layout.Format(read); again != text || e != api.OK {
			t.Errorf("Format(Parse(%q)): %q, error %d; want %q", loose, again, e, text)
		}
	}
}

// Writing into a result changes no other one (R2).
func TestP9_3NewMemory(t *testing.T) {
	first, _, _ := layout.Parse(yardText)
	second, _, _ := layout.Parse(yardText)
	clear(first[:cap(first)])
	if !slices.Equal(second, yard()) {
		t.Errorf("after writing into another result: %+v", second)
	}
	sameParse(t, yardText, parsed{yard(), 0, api.OK})
}
