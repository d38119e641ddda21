package wagonnumber_test

import (
	"slices"
	"strings"
	"testing"

	"humpyard/api"
	"humpyard/wagonnumber"
)

const (
	number = "318027731237"
	text   = "31 80 2773 123-7"
)

// P2.1

func TestP2_1Digit(t *testing.T) {
	for _, c := range []struct {
		s    string
		want int
	}{
		{"31802773123", 7},
		{"00000000000", 0},
		{"99999999999", 1},
		{"11111111111", 3},
		{"55555555555", 9},
		// one digit, doubled
		{"10000000000", 8}, {"20000000000", 6}, {"30000000000", 4}, {"40000000000", 2}, {"50000000000", 9},
		{"60000000000", 7}, {"70000000000", 5}, {"80000000000", 3}, {"90000000000", 1},
		// one digit that stays as it is
		{"01000000000", 9}, {"02000000000", 8}, {"03000000000", 7}, {"04000000000", 6}, {"05000000000", 5},
		{"06000000000", 4}, {"07000000000", 3}, {"08000000000", 2}, {"09000000000", 1},
		// the last two places before the check digit
		{"00000000040", 6}, {"00000000004", 2}, {"00000000005", 9}, {"00000000050", 5},
	} {
		if got, e := wagonnumber.Digit(c.s); got != c.want || e != api.OK {
			t.Errorf("Digit(%q) = %d, error %d; want %d", c.s, got, e, c.want)
		}
	}
	for _, s := range digitStrings(11, 5000) {
		sameDigit(t, s)
	}
}

func TestP2_1DigitForm(t *testing.T) {
	for _, s := range []string{"", "3180277312", number, "3180277312a", "a1802773123", "31802 73123", "-1802773123", "3180277312/", "3180277312:", "318027\xb13123", text} {
		if got, e := wagonnumber.Digit(s); got != 0 || e != api.ErrForm {
			t.Errorf("Digit(%q) = %d, error %d; want ErrForm", s, got, e)
		}
	}
	for _, s := range spoiled(number[:11]) {
		sameDigit(t, s)
	}
	for n := range 40 {
		sameDigit(t, strings.Repeat("7", n))
	}
}

func sameDigit(t *testing.T, s string) {
	t.Helper()
	got, e := wagonnumber.Digit(s)
	if want, wantE := digit(s); got != want || e != wantE {
		t.Fatalf("Digit(%q) = %d, error %d; want %d, error %d", s, got, e, want, wantE)
	}
}

type notNumber struct {
	s string
	e api.Errno
}

// notNumbers returns strings that are no numbers, and why. A string that is not twelve digits has ErrForm whatever its last digit is.
func notNumbers() []notNumber {
	return []notNumber{
		{"318027731236", api.ErrChecksum},
		{"318027731238", api.ErrChecksum},
		{"418027731237", api.ErrChecksum},
		{"328027731237", api.ErrChecksum},
		{"318097731237", api.ErrChecksum},
		{"318077731237", api.ErrChecksum},
		{"000000000001", api.ErrChecksum},
		{"", api.ErrForm},
		{"9", api.ErrForm},
		{"3180", api.ErrForm},
		{"31809", api.ErrForm},
		{"31802773123", api.ErrForm},
		{"3180277312370", api.ErrForm},
		{"3180277312360", api.ErrForm},
		{"0" + number, api.ErrForm},
		{"31802773123x", api.ErrForm},
		{"x18027731237", api.ErrForm},
		{"31802773x236", api.ErrForm},
		{"31802773123-", api.ErrForm},
		{"31802773123 ", api.ErrForm},
		{"31802773123/", api.ErrForm},
		{"31802773123:", api.ErrForm},
		{"31802773123\xff", api.ErrForm},
		{text, api.ErrForm},
	}
}

func TestP2_1Valid(t *testing.T) {
	for _, s := range []string{number, "000000000000", "999999999991", "090000000001"} {
		if e := wagonnumber.Valid(s); e != api.OK {
			t.Errorf("Valid(%q) = error %d", s, e)
		}
	}
	for _, c := range notNumbers() {
		if e := wagonnumber.Valid(c.s); e != c.e {
			t.Errorf("Valid(%q) = error %d, want %d", c.s, e, c.e)
		}
	}
}

func TestP2_1ValidDefinition(t *testing.T) {
	lists := [][]string{digitStrings(12, 5000), numbers(2000), spoiled(number), spoiled("318027731236"), digitStrings(11, 100), digitStrings(13, 100)}
	for _, s := range slices.Concat(lists...) {
		if got, want := wagonnumber.Valid(s), valid(s); got != want {
			t.Fatalf("Valid(%q) = error %d, want %d", s, got, want)
		}
	}
}

// A number is what Digit completes, and no other digit does.
func TestP2_1DigitCompletes(t *testing.T) {
	for _, s := range digitStrings(11, 500) {
		d, e := wagonnumber.Digit(s)
		if e != api.OK {
			t.Fatalf("Digit(%q): error %d", s, e)
		}
		for c := range 10 {
			want := api.ErrChecksum
			if c == d {
				want = api.OK
			}
			if got := wagonnumber.Valid(s + "0123456789"[c:c+1]); got != want {
				t.Fatalf("Valid(%s%d) = error %d, but Digit gives %d", s, c, got, d)
			}
		}
	}
}

// P2.2

func TestP2_2Kind(t *testing.T) {
	kinds := [10]int{
		api.KindFlat, api.KindFlat, api.KindTwoAxle, api.KindFlat, api.KindTwoAxle,
		api.KindFlat, api.KindFlat, api.KindTank, api.KindTank, api.KindSix,
	}
	for d, want := range kinds {
		// The other digits are of another kind, so that Kind must look at the right one.
		for _, others := range []string{"0", "2", "7", "9"} {
			b := []byte(strings.Repeat(others, 11))
			b[4] = "0123456789"[d]
			check, _ := digit(string(b))
			s := string(b) + "0123456789"[check:check+1]
			if got, e := wagonnumber.Kind(s); got != want || e != api.OK {
				t.Errorf("Kind(%q) = %d, error %d; want %d", s, got, e, want)
			}
		}
	}
	if got, e := wagonnumber.Kind(number); got != api.KindTwoAxle || e != api.OK {
		t.Errorf("Kind(%q) = %d, error %d", number, got, e)
	}
	for _, s := range numbers(2000) {
		sameKind(t, s)
	}
}

func TestP2_2KindErrors(t *testing.T) {
	for _, c := range notNumbers() {
		if got, e := wagonnumber.Kind(c.s); got != 0 || e != c.e {
			t.Errorf("Kind(%q) = %d, error %d; want error %d", c.s, got, e, c.e)
		}
	}
	for _, s := range slices.Concat(digitStrings(12, 1000), spoiled(number)) {
		sameKind(t, s)
	}
}

func sameKind(t *testing.T, s string) {
	t.Helper()
	got, e := wagonnumber.Kind(s)
	if want, wantE := kind(s); got != want || e != wantE {
		t.Fatalf("Kind(%q) = %d, error %d; want %d, error %d", s, got, e, want, wantE)
	}
}

func TestP2_2Format(t *testing.T) {
	for _, c := range []struct{ s, want string }{
		{number, text},
		{"000000000000", "00 00 0000 000-0"},
		{"999999999991", "99 99 9999 999-1"},
		{"123456789015", "12 34 5678 901-5"},
	} {
		if got, e := wagonnumber.Format(c.s); got != c.want || e != api.OK {
			t.Errorf("Format(%q) = %q, error %d; want %q", c.s, got, e, c.want)
		}
	}
	for _, s := range numbers(2000) {
		sameFormat(t, s)
	}
}

func TestP2_2FormatErrors(t *testing.T) {
	for _, c := range notNumbers() {
		if got, e := wagonnumber.Format(c.s); got != "" || e != c.e {
			t.Errorf("Format(%q) = %q, error %d; want error %d", c.s, got, e, c.e)
		}
	}
	for _, s := range slices.Concat(digitStrings(12, 1000), spoiled(number)) {
		sameFormat(t, s)
	}
}

func sameFormat(t *testing.T, s string) {
	t.Helper()
	got, e := wagonnumber.Format(s)
	if want, wantE := format(s); got != want || e != wantE {
		t.Fatalf("Format(%q) = %q, error %d; want %q, error %d", s, got, e, want, wantE)
	}
}

// P2.3

func TestP2_3Parse(t *testing.T) {
	if got, e := wagonnumber.Parse(text); got != number || e != api.OK {
		t.Errorf("Parse(%q) = %q, error %d", text, got, e)
	}
	for _, s := range numbers(2000) {
		f, e := wagonnumber.Format(s)
		if e != api.OK {
			t.Fatalf("Format(%q): error %d", s, e)
		}
		if got, e := wagonnumber.Parse(f); got != s || e != api.OK {
			t.Fatalf("Parse(%q) = %q, error %d; want %q", f, got, e, s)
		}
	}
	for _, s := range digitStrings(12, 2000) {
		sameParse(t, grouped(s))
	}
}

func TestP2_3ParseErrors(t *testing.T) {
	for _, c := range []struct {
		text string
		e    api.Errno
	}{
		{"31 80 2773 123-8", api.ErrChecksum},
		{"31 80 2773 123-6", api.ErrChecksum},
		{"41 80 2773 123-7", api.ErrChecksum},
		{"", api.ErrSyntax},
		{number, api.ErrSyntax},
		// a separator is missing
		{"3180 2773 123-7", api.ErrSyntax},
		{"31 802773 123-7", api.ErrSyntax},
		{"31 80 2773123-7", api.ErrSyntax},
		{"31 80 2773 1237", api.ErrSyntax},
		// a separator is doubled
		{"31  80 2773 123-7", api.ErrSyntax},
		{"31 80  2773 123-7", api.ErrSyntax},
		{"31 80 2773  123-7", api.ErrSyntax},
		{"31 80 2773 123--7", api.ErrSyntax},
		// a separator stands for another one, or at another place
		{"31-80 2773 123-7", api.ErrSyntax},
		{"31 80-2773 123-7", api.ErrSyntax},
		{"31 80 2773-123-7", api.ErrSyntax},
		{"31 80 2773 123 7", api.ErrSyntax},
		{"3 180 2773 123-7", api.ErrSyntax},
		{"318 0 2773 123-7", api.ErrSyntax},
		{"31 8 02773 123-7", api.ErrSyntax},
		{"31 802 773 123-7", api.ErrSyntax},
		{"31 80 277 3123-7", api.ErrSyntax},
		{"31 80 27731 23-7", api.ErrSyntax},
		{"31 80 2773 12-37", api.ErrSyntax},
		{"31 80 2773 1237-", api.ErrSyntax},
		{"31\t80 2773 123-7", api.ErrSyntax},
		// a digit stands for a separator
		{"31080 2773 123-7", api.ErrSyntax},
		{"31 8002773 123-7", api.ErrSyntax},
		{"31 80 27730123-7", api.ErrSyntax},
		{"31 80 2773 12307", api.ErrSyntax},
		// something else stands for a digit
		{"31 80 27a3 123-7", api.ErrSyntax},
		{"31 80 2773 123-x", api.ErrSyntax},
		{" 1 80 2773 123-7", api.ErrSyntax},
		{"31 80 2773 123--", api.ErrSyntax},
		{"31 80 2773 123- ", api.ErrSyntax},
		{"31 80 2773 12/-7", api.ErrSyntax},
		{"31 80 2773 12:-7", api.ErrSyntax},
		{"\xb31 80 2773 123-7", api.ErrSyntax},
		// too short, too long
		{"31 80 2773 123-", api.ErrSyntax},
		{"1 80 2773 123-7", api.ErrSyntax},
		{" " + text, api.ErrSyntax},
		{text + " ", api.ErrSyntax},
		{text + "7", api.ErrSyntax},
		{"0" + text, api.ErrSyntax},
		{text + "\n", api.ErrSyntax},
		{text + text, api.ErrSyntax},
		// the form comes before the check digit
		{"31 80 2773 123 8", api.ErrSyntax},
		{"31 80 2773 12x-8", api.ErrSyntax},
		{"31 80 2773 123-80", api.ErrSyntax},
		{"318027731238", api.ErrSyntax},
	} {
		if got, e := wagonnumber.Parse(c.text); got != "" || e != c.e {
			t.Errorf("Parse(%q) = %q, error %d; want error %d", c.text, got, e, c.e)
		}
	}
	for _, s := range slices.Concat(spoiled(text), spoiled("31 80 2773 123-8"), spoiled(number)) {
		sameParse(t, s)
	}
}

func sameParse(t *testing.T, s string) {
	t.Helper()
	got, e := wagonnumber.Parse(s)
	if want, wantE := parse(s); got != want || e != wantE {
		t.Fatalf("Parse(%q) = %q, error %d; want %q, error %d", s, got, e, want, wantE)
	}
}

// P2.4

func TestP2_4Repairs(t *testing.T) {
	for _, c := range []struct {
		s    string
		want []string
	}{
		// Numbers: only exchanges of 0 and 9 give others.
		{number, nil},
		{"000000000000", nil},
		{"999999999991", nil},
		{"090000000001", []string{"009000000001", "900000000001"}},
		{"900000000001", []string{"090000000001"}},
		{"000000000091", []string{"000000000901"}},
		{"000000000109", []string{"000000000190"}},
		{"000000000190", []string{"000000000109"}},
		{"090909090905", []string{
			"009909090905", "090099090905", "090900990905", "090909009905", "090909090095",
			"090909099005", "090909900905", "090990090905", "099009090905", "900909090905",
		}},
		// One replacement at each place; the exchange of 0 and 1 gives 000000000010, which is no number.
		{"000000000001", []string{
			"000000000000", "000000000091", "000000000901", "000000009001", "000000090001", "000000900001",
			"000009000001", "000090000001", "000900000001", "009000000001", "090000000001", "900000000001",
		}},
		// One replacement at each place, and the exchanges of 1 and 8 and of 3 and 2.
		{"318027731327", []string{
			"310827731327", "314027731327", "318027331327", "318027731237", "318027731328", "318027731377",
			"318027731427", "318027736327", "318027741327", "318028731327", "318077731327", "318127731327",
			"328027731327", "818027731327",
		}},
	} {
		if got, e := wagonnumber.Repairs(c.s); !slices.Equal(got, c.want) || e != api.OK {
			t.Errorf("Repairs(%q) = %q, error %d; want %q", c.s, got, e, c.want)
		}
	}
}

// The number with each pair of neighbours exchanged is found again.
func TestP2_4RepairsExchange(t *testing.T) {
	for _, s := range numbers(500) {
		for i := range 11 {
			b := []byte(s)
			b[i], b[i+1] = b[i+1], b[i]
			got, e := wagonnumber.Repairs(string(b))
			if want := s[i] != s[i+1]; e != api.OK || slices.Contains(got, s) != want {
				t.Fatalf("Repairs(%q) = %q, error %d; it must have %q: %v", b, got, e, s, want)
			}
		}
	}
}

// The number with each digit replaced by each other one is found again.
func TestP2_4RepairsReplacement(t *testing.T) {
	for _, s := range numbers(100) {
		for i := range 12 {
			for d := range 10 {
				b := []byte(s)
				b[i] = "0123456789"[d]
				got, e := wagonnumber.Repairs(string(b))
				if want := string(b) != s; e != api.OK || slices.Contains(got, s) != want {
					t.Fatalf("Repairs(%q) = %q, error %d; it must have %q: %v", b, got, e, s, want)
				}
			}
		}
	}
}

func TestP2_4RepairsDefinition(t *testing.T) {
	for _, s := range slices.Concat(digitStrings(12, 2000), numbers(2000), spoiled(number)) {
		sameRepairs(t, s)
	}
}

func sameRepairs(t *testing.T, s string) {
	t.Helper()
	got, e := wagonnumber.Repairs(s)
	if want, wantE := repairs(s); !slices.Equal(got, want) || e != wantE {
		t.Fatalf("Repairs(%q) = %q, error %d; want %q, error %d", s, got, e, want, wantE)
	}
}

func TestP2_4RepairsOrder(t *testing.T) {
	for _, s := range slices.Concat(digitStrings(12, 1000), numbers(1000)) {
		got, e := wagonnumber.Repairs(s)
		if e != api.OK {
			t.Fatalf("Repairs(%q): error %d", s, e)
		}
		for i, c := range got {
			if wagonnumber.Valid(c) != api.OK || c == s || (i > 0 && got[i-1] >= c) {
				t.Fatalf("Repairs(%q) = %q: %q is no number, not above the one before it or s itself", s, got, c)
			}
		}
	}
}

// The consequences: a number has no replacement, another string has one at each place.
func TestP2_4RepairsConsequences(t *testing.T) {
	for _, s := range digitStrings(12, 1000) {
		got, e := wagonnumber.Repairs(s)
		if e != api.OK {
			t.Fatalf("Repairs(%q): error %d", s, e)
		}
		var places [12]int
		for _, c := range got {
			if i := onlyDifference(s, c); i >= 0 {
				places[i]++
			}
		}
		want := 1
		if wagonnumber.Valid(s) == api.OK {
			want = 0
		}
		for i, n := range places {
			if n != want {
				t.Fatalf("Repairs(%q) = %q: %d replacements at %d, want %d", s, got, n, i, want)
			}
		}
	}
}

// onlyDifference returns the place at which two strings of equal length differ, and -1 if they differ at several.
func onlyDifference(s, c string) int {
	place := -1
	for i := range len(s) {
		if s[i] != c[i] {
			if place >= 0 {
				return -1
			}
			place = i
		}
	}
	return place
}

func TestP2_4RepairsErrors(t *testing.T) {
	for _, s := range []string{"", "0", "31802773123", "3180277312370", "31802773123a", "a18027731237", "31802773123\x80", "31802773123/", "31802773123:", text} {
		if got, e := wagonnumber.Repairs(s); len(got) != 0 || e != api.ErrForm {
			t.Errorf("Repairs(%q) = %q, error %d; want ErrForm", s, got, e)
		}
	}
}

// Every function takes every string, and does not change it (R1, R2).
func TestAnyString(t *testing.T) {
	for _, s := range anyStrings(20000) {
		before := strings.Clone(s)
		sameDigit(t, s)
		sameKind(t, s)
		sameFormat(t, s)
		sameParse(t, s)
		if got, want := wagonnumber.Valid(s), valid(s); got != want {
			t.Fatalf("Valid(%q) = error %d, want %d", s, got, want)
		}
		sameRepairs(t, s)
		if s != before {
			t.Fatalf("%q has become %q", before, s)
		}
	}
}

// Writing into a result changes no other one (R2).
func TestP2_4RepairsNewMemory(t *testing.T) {
	const s = "318027731327"
	first, _ := wagonnumber.Repairs(s)
	second, _ := wagonnumber.Repairs(s)
	want, _ := repairs(s)
	first = first[:cap(first)]
	for i := range first {
		first[i] = "x"
	}
	third, _ := wagonnumber.Repairs(s)
	if !slices.Equal(second, want) || !slices.Equal(third, want) {
		t.Errorf("after writing into a result: %q and %q, want %q", second, third, want)
	}
}
