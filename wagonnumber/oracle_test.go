package wagonnumber_test

import (
	"math/rand/v2"
	"slices"
	"strings"

	"humpyard/api"
)

// This file says what the functions of package wagonnumber must return, from the definitions alone.

// remainder returns the sum of a string of digits, modulo 10. The list has, for each digit, its double, minus 9 where that is greater than 9.
func remainder(s string) int {
	doubled := [10]int{0, 2, 4, 6, 8, 1, 3, 5, 7, 9}
	total := 0
	for i, c := range s {
		if i%2 == 0 {
			total += doubled[c-'0']
		} else {
			total += int(c - '0')
		}
	}
	return total % 10
}

// digitsOnly reports whether s has n bytes and each one is a digit.
func digitsOnly(s string, n int) bool {
	return len(s) == n && !slices.ContainsFunc([]byte(s), func(c byte) bool { return !isDigit(c) })
}

func isDigit(c byte) bool {
	return strings.IndexByte("0123456789", c) >= 0
}

func digit(s string) (int, api.Errno) {
	if !digitsOnly(s, 11) {
		return 0, api.ErrForm
	}
	for d := range 10 {
		if (remainder(s)+d)%10 == 0 {
			return d, api.OK
		}
	}
	panic("there is always a check digit")
}

func valid(s string) api.Errno {
	if !digitsOnly(s, 12) {
		return api.ErrForm
	}
	if d, _ := digit(s[:11]); s[11] != "0123456789"[d] {
		return api.ErrChecksum
	}
	return api.OK
}

func kind(s string) (int, api.Errno) {
	if e := valid(s); e != api.OK {
		return 0, e
	}
	return map[byte]int{
		'0': api.KindFlat, '1': api.KindFlat, '2': api.KindTwoAxle, '3': api.KindFlat, '4': api.KindTwoAxle,
		'5': api.KindFlat, '6': api.KindFlat, '7': api.KindTank, '8': api.KindTank, '9': api.KindSix,
	}[s[4]], api.OK
}

// grouped writes digits in the form of Format, without checking them.
func grouped(s string) string {
	var text []byte
	for i := range len(s) {
		switch i {
		case 2, 4, 8:
			text = append(text, ' ')
		case 11:
			text = append(text, '-')
		}
		text = append(text, s[i])
	}
	return string(text)
}

func format(s string) (string, api.Errno) {
	if e := valid(s); e != api.OK {
		return "", e
	}
	return grouped(s), api.OK
}

func parse(text string) (string, api.Errno) {
	if len(text) != 16 {
		return "", api.ErrSyntax
	}
	var s []byte
	for i := range len(text) {
		switch c := text[i]; i {
		case 2, 5, 10:
			if c != ' ' {
				return "", api.ErrSyntax
			}
		case 14:
			if c != '-' {
				return "", api.ErrSyntax
			}
		default:
			s = append(s, c)
		}
	}
	switch valid(string(s)) {
	case api.ErrForm:
		return "", api.ErrSyntax
	case api.ErrChecksum:
		return "", api.ErrChecksum
	}
	return string(s), api.OK
}

// repairs looks at every string that a replacement or an exchange makes, allowed or not, and keeps the numbers that differ from s.
func repairs(s string) ([]string, api.Errno) {
	if !digitsOnly(s, 12) {
		return nil, api.ErrForm
	}
	var found []string
	keep := func(b []byte) {
		if c := string(b); c != s && valid(c) == api.OK {
			found = append(found, c)
		}
	}
	for i := range len(s) {
		for d := range 10 {
			b := []byte(s)
			b[i] = "0123456789"[d]
			keep(b)
		}
		if i > 0 {
			b := []byte(s)
			b[i-1], b[i] = b[i], b[i-1]
			keep(b)
		}
	}
	slices.Sort(found)
	return slices.Compact(found), api.OK
}

// digitStrings returns strings of n digits: the ones with few different digits, and count others from a fixed seed.
func digitStrings(n, count int) []string {
	var l []string
	for d := range 10 {
		same := []byte(strings.Repeat("0123456789"[d:d+1], n))
		l = append(l, string(same))
		for i := range n {
			for c := range 10 {
				b := slices.Clone(same)
				b[i] = "0123456789"[c]
				l = append(l, string(b))
			}
		}
	}
	r := rand.New(rand.NewPCG(2, uint64(n)))
	for range count {
		// Some strings have few different digits, so that equal neighbours and pairs of 0 and 9 are frequent.
		digits := []string{"0123456789", "09", "0189", "3180"}[r.IntN(4)]
		b := make([]byte, n)
		for i := range b {
			b[i] = digits[r.IntN(len(digits))]
		}
		l = append(l, string(b))
	}
	return l
}

// numbers returns a number for each string of eleven digits that digitStrings returns.
func numbers(count int) []string {
	var l []string
	for _, s := range digitStrings(11, count) {
		d, _ := digit(s)
		l = append(l, s+"0123456789"[d:d+1])
	}
	return l
}

// spoiled returns strings made from s in ways that mostly break its form: a byte replaced, left out, doubled or followed by something else, and parts put before or behind. A digit is never replaced by another one.
func spoiled(s string) []string {
	l := []string{"", s + s, s + "0", "0" + s, s + " ", " " + s, s + "\n", s + "\x00", "-" + s, "+" + s, strings.Repeat(s, 100)}
	for i := range len(s) {
		l = append(l, s[:i]+s[i+1:], s[:i]+s[i:i+1]+s[i:], s[:i], s[i+1:])
		for c := range 256 {
			if b := byte(c); !isDigit(b) || !isDigit(s[i]) {
				l = append(l, s[:i]+string([]byte{b})+s[i+1:])
			}
		}
		// Digits of other scripts and bytes that are no rune count as no digits; the second form keeps the length of s.
		for _, c := range []string{"\u0660", "\uff13", "\U0001d7d8", "\xff\xfe", "  ", "--", " -", "- "} {
			l = append(l, s[:i]+c+s[i+1:], s[:i]+c+s[min(i+len(c), len(s)):])
		}
	}
	return l
}

// anyStrings returns strings of all bytes, some of them with many digits, from a fixed seed.
func anyStrings(count int) []string {
	r := rand.New(rand.NewPCG(2, 4))
	var l []string
	for range count {
		b := make([]byte, r.IntN(20))
		others := r.IntN(3)
		for i := range b {
			if r.IntN(3) < others {
				b[i] = byte(r.IntN(256))
			} else {
				b[i] = "0123456789 -"[r.IntN(12)]
			}
		}
		l = append(l, string(b))
	}
	return l
}
