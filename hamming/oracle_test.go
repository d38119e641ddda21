package hamming_test

import (
	"math"
	"math/rand/v2"

	"humpyard/api"
)

// This file says what the functions of package hamming must return, from the definitions alone: the code words are found by looking at all words.

const words = 65536

// bitsOf returns the bits of a word, by division.
func bitsOf(w int) [16]bool {
	var b [16]bool
	for p := range b {
		b[p] = w%2 == 1
		w /= 2
	}
	return b
}

// isCodeWord says whether the syndrome of a word is 0 and an even number of its bits is set.
func isCodeWord(w int) bool {
	syndrome, even := 0, true
	for p, set := range bitsOf(w) {
		if set {
			syndrome ^= p
			even = !even
		}
	}
	return syndrome == 0 && even
}

// dataOf returns the value of the data bits of a word.
func dataOf(w int) int {
	b := bitsOf(w)
	v := 0
	for i, p := range []int{3, 5, 6, 7, 9, 10, 11, 12, 13, 14, 15} {
		if b[p] {
			v += int(math.Pow(2, float64(i)))
		}
	}
	return v
}

// codeWords returns, for each value, the code words with its data bits.
func codeWords() [2048][]int {
	var l [2048][]int
	for w := range words {
		if isCodeWord(w) {
			l[dataOf(w)] = append(l[dataOf(w)], w)
		}
	}
	return l
}

func distance(a, b int) int {
	n := 0
	c, d := bitsOf(a), bitsOf(b)
	for p := range c {
		if c[p] != d[p] {
			n++
		}
	}
	return n
}

type decoded struct {
	v, bit int
	e      api.Errno
}

// decode looks at the word itself and at the sixteen words that differ from it in one bit.
func decode(w int) decoded {
	if w < 0 || w >= words {
		return decoded{e: api.ErrRange}
	}
	if isCodeWord(w) {
		return decoded{v: dataOf(w), bit: -1}
	}
	for p, value := 0, 1; p < 16; p, value = p+1, value*2 {
		next := w + value
		if bitsOf(w)[p] {
			next = w - value
		}
		if isCodeWord(next) {
			return decoded{v: dataOf(next), bit: p}
		}
	}
	return decoded{e: api.ErrChecksum}
}

// pack writes the code words of a list, which are found among all words.
func pack(l []int) ([]byte, api.Errno) {
	if len(l) > 65536 {
		return nil, api.ErrLimit
	}
	code := codeWords()
	var b []byte
	for _, v := range l {
		if v < 0 || v >= 2048 {
			return nil, api.ErrRange
		}
		w := code[v][0]
		b = append(b, byte(w/256), byte(w%256))
	}
	return b, api.OK
}

func unpack(b []byte) ([]int, []int, api.Errno) {
	switch {
	case len(b) > 131072:
		return nil, nil, api.ErrLimit
	case len(b)%2 == 1:
		return nil, nil, api.ErrTruncated
	}
	var l, lost []int
	for i := 0; i < len(b); i += 2 {
		d := decode(int(b[i])*256 + int(b[i+1]))
		if d.e != api.OK {
			d.v = -1
			lost = append(lost, i/2)
		}
		l = append(l, d.v)
	}
	return l, lost, api.OK
}

// noWords returns numbers that are no words, among them some whose lower bits are those of a code word.
func noWords() []int {
	l := []int{-1, -2, -15, -16, -65535, -65536, -65537, 65536, 65537, 65551, 65536 + 14, 131071, 131072, 1 << 31, 1<<32 | 15, 1 << 62, math.MaxInt, math.MaxInt - 1, math.MinInt, math.MinInt + 1, math.MinInt + 15}
	for p := 16; p < 63; p++ {
		l = append(l, 1<<p, -1<<p, 1<<p|15, -1<<p|15, 1<<p-1+words)
	}
	return l
}

// noValues returns numbers that are no values of code words.
func noValues() []int {
	l := []int{2048, 2049, 4095, 4096, 65535, -2047, -2048, -2049}
	return append(l, noWords()...)
}

func random(stream uint64) *rand.Rand {
	return rand.New(rand.NewPCG(3, stream))
}
