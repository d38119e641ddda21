package layout

import (
	"strconv"
	"strings"

	"humpyard/api"
)

const (
	// maxNumber is the greatest number that a text may have, above or below zero.
	maxNumber = 1000000000
	digits    = "0123456789"
)

// reader collects the elements of the lines that it reads.
type reader struct {
	elements []api.Element
	// indexes has the index of the element with each name. Where two of them have the same one, it does not matter which: Valid objects to the second one before it looks at any element that follows.
	indexes map[string]int
}

// Parse returns the layout of a text, or an error and its line: see P9.3.
func Parse(text string) (l []api.Element, line int, e api.Errno) {
	if len(text) > api.MaxText {
		return nil, 0, api.ErrLimit
	}
	r := reader{indexes: map[string]int{}}
	for i, s := range strings.Split(text, "\n") {
		if e := r.read(s); e != api.OK {
			return nil, i + 1, e
		}
	}
	if e := Valid(r.elements); e != api.OK {
		return nil, 0, e
	}
	return r.elements, 0, api.OK
}

// read reads the element of a line, if it has one.
func (r *reader) read(line string) api.Errno {
	// A tab is part of a word, so that strings.Fields does not fit.
	words := strings.FieldsFunc(line, func(c rune) bool { return c == ' ' })
	if len(words) == 0 || strings.HasPrefix(words[0], "#") {
		return api.OK
	}
	number, ok := kindOf(words)
	if !ok {
		return api.ErrSyntax
	}
	n, e := readNumbers(words[len(words)-kinds[number].numbers:])
	if e != api.OK {
		return e
	}
	// A part of the text as the name would keep all of it in memory.
	x := api.Element{Kind: number, Name: strings.Clone(words[1]), Parent: -1, Length: n[0], Grade: n[1], Curve: n[2], Power: n[3]}
	if !isName(x.Name) {
		return api.ErrName
	}
	if x.Kind != api.ElementCrest {
		if x.Parent, x.Side, ok = r.parent(words[2]); !ok {
			return api.ErrName
		}
	}
	r.indexes[x.Name] = len(r.elements)
	r.elements = append(r.elements, x)
	return api.OK
}

// parent returns the index of the element that a word names, and the side.
func (r *reader) parent(word string) (index, side int, ok bool) {
	for side, suffix := range suffixes {
		name, hasSuffix := strings.CutSuffix(word, suffix)
		if index, ok := r.indexes[name]; ok && hasSuffix {
			return index, side, true
		}
	}
	return 0, 0, false
}

// kindOf returns the kind of the element whose line has these words, if there is one with as many.
func kindOf(words []string) (number int, ok bool) {
	for number, k := range kinds {
		if k.keyword == words[0] {
			return number, k.words == len(words)
		}
	}
	return 0, false
}

// readNumbers returns the numbers that up to four words are, followed by zeros.
func readNumbers(words []string) (n [4]int, e api.Errno) {
	// The form of the last number comes before the range of the first one.
	for _, s := range words {
		if !isNumber(s) {
			return n, api.ErrSyntax
		}
	}
	var numbers [4]int
	for i, s := range words {
		x, err := strconv.Atoi(s)
		if err != nil || x < -maxNumber || x > maxNumber {
			return n, api.ErrRange
		}
		numbers[i] = x
	}
	return numbers, api.OK
}

// isNumber says whether s has the form in which Format writes numbers, which have any number of digits here.
func isNumber(s string) bool {
	if s == "0" {
		return true
	}
	s = strings.TrimPrefix(s, "-")
	return consistsOf(s, digits) && s[0] != '0'
}
