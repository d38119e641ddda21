package consist_test

import (
	"encoding/hex"
	"fmt"
	"math"
	"math/rand/v2"
	"slices"
	"strconv"
	"strings"

	"humpyard/api"
	"humpyard/wagonnumber"
)

// This file says what the functions of package consist must return, from the definitions alone.

const (
	letters = "abcdefghijklmnopqrstuvwxyz0123456789"
	// axlesByKind has the number of axles for each digit with the index 4 of a Number.
	axlesByKind = "4424244446"
)

// outside says whether a number is not in a range.
func outside(n, low, high int) bool {
	return n < low || n > high
}

func valid(w api.Wagon) api.Errno {
	if e := wagonnumber.Valid(w.Number); e != api.OK {
		return e
	}
	kind := w.Number[4]
	if fmt.Sprint(w.Axles) != string(axlesByKind[kind-'0']) {
		return api.ErrInvalid
	}
	shortest := map[bool]int{false: 80, true: 120}[kind == '9']
	if outside(w.Length, shortest, 400) || outside(w.Mass, 50, 2000) || outside(w.Brake, 0, w.Mass) || outside(w.Goods, 0, 9) {
		return api.ErrRange
	}
	if outside(len(w.Dest), 1, 12) || slices.ContainsFunc([]byte(w.Dest), func(c byte) bool { return strings.IndexByte(letters, c) < 0 }) {
		return api.ErrName
	}
	return api.OK
}

// validList compares each Number with all those before it.
func validList(l []api.Wagon) api.Errno {
	if len(l) > 96 {
		return api.ErrLimit
	}
	for i, w := range l {
		if e := valid(w); e != api.OK {
			return e
		}
		for _, earlier := range l[:i] {
			if earlier.Number == w.Number {
				return api.ErrDuplicate
			}
		}
	}
	return api.OK
}

// sums are what Total returns.
type sums struct {
	length, mass, axles int
	e                   api.Errno
}

func total(l []api.Wagon) sums {
	if e := validList(l); e != api.OK {
		return sums{e: e}
	}
	var s sums
	for i := range l {
		s.length += l[i].Length
		s.mass += l[i].Mass
		s.axles += l[i].Axles
	}
	return s
}

// check takes the remainder once: it is right while the sum is an int, up to about 2^27 bytes.
func check(b []byte) int {
	sum := 0
	for i := range b {
		sum += (i + 1) * int(b[i])
	}
	return sum % 65521
}

// sealed returns bytes with their check sum.
func sealed(b ...byte) []byte {
	n := check(b)
	return append(slices.Clone(b), byte(n/256), byte(n%256))
}

// message writes a list in the form of its encoding, whether it is valid or not: it takes Numbers with the digits a to f, any Goods that fit, and up to 255 wagons. The digits of a Number are those of the bytes in hexadecimal.
func message(l []api.Wagon) []byte {
	text := fmt.Sprintf("%02x", len(l))
	for _, w := range l {
		goods := w.Goods + map[bool]int{true: 16}[w.Gentle]
		text += fmt.Sprintf("%s%04x%02x%04x%04x%02x%02x%x", w.Number, w.Length, w.Axles, w.Mass, w.Brake, goods, len(w.Dest), w.Dest)
	}
	b, err := hex.DecodeString(text)
	if err != nil {
		panic(err)
	}
	return sealed(b...)
}

func encode(l []api.Wagon) ([]byte, api.Errno) {
	if e := validList(l); e != api.OK {
		return nil, e
	}
	return message(l), api.OK
}

// offsets returns where the wagons of an encoding begin, and where its check sum does. It returns none if the bytes end too early.
func offsets(b []byte) []int {
	if len(b) == 0 {
		return nil
	}
	at := 1
	l := []int{at}
	for range b[0] {
		if at+15 > len(b) {
			return nil
		}
		at += 15 + int(b[at+14])
		l = append(l, at)
	}
	if at+2 > len(b) {
		return nil
	}
	return l
}

func decode(b []byte) ([]api.Wagon, api.Errno) {
	at := offsets(b)
	if at == nil {
		return nil, api.ErrTruncated
	}
	end := at[len(at)-1]
	if end+2 != len(b) {
		return nil, api.ErrForm
	}
	if fmt.Sprintf("%04x", check(b[:end])) != hex.EncodeToString(b[end:]) {
		return nil, api.ErrChecksum
	}
	var l []api.Wagon
	for i := range len(at) - 1 {
		w, ok := wagonOf(b[at[i]:at[i+1]])
		if !ok {
			return nil, api.ErrForm
		}
		l = append(l, w)
	}
	if e := validList(l); e != api.OK {
		return nil, e
	}
	return l, api.OK
}

// wagonOf returns the wagon of some bytes, if it has digits and goods.
func wagonOf(b []byte) (api.Wagon, bool) {
	text := hex.EncodeToString(b)
	number := func(from, to int) int {
		n, err := strconv.ParseUint(text[from:to], 16, 16)
		if err != nil {
			panic(err)
		}
		return int(n)
	}
	goods := number(26, 28)
	w := api.Wagon{
		Number: text[:12],
		Length: number(12, 16), Axles: number(16, 18), Mass: number(18, 22), Brake: number(22, 26),
		Goods: goods % 16, Gentle: goods/16 == 1,
		Dest: string(b[15:]),
	}
	return w, !strings.ContainsAny(w.Number, "abcdef") && goods < 32 && w.Goods < 10
}

// numbered returns the number with these eleven digits.
func numbered(digits string) string {
	d, e := wagonnumber.Digit(digits)
	if e != api.OK {
		panic("no eleven digits: " + digits)
	}
	return digits + fmt.Sprint(d)
}

// randomWagon returns a valid wagon, often at the limits; those with different places have different Numbers.
func randomWagon(r *rand.Rand, place int) api.Wagon {
	between := func(low, high int) int {
		switch r.IntN(4) {
		case 0:
			return low
		case 1:
			return high
		}
		return low + r.IntN(high-low+1)
	}
	kind := r.IntN(10)
	w := api.Wagon{
		Number: numbered(fmt.Sprintf("%04d%d%03d%03d", r.IntN(10000), kind, r.IntN(1000), place)),
		Length: between(80, 400), Axles: int(axlesByKind[kind] - '0'), Mass: between(50, 2000),
		Goods: r.IntN(10), Gentle: r.IntN(2) == 0,
	}
	if kind == 9 {
		w.Length = between(120, 400)
	}
	w.Brake = between(0, w.Mass)
	for range between(1, 12) {
		w.Dest += string(letters[r.IntN(len(letters))])
	}
	return w
}

// randomList returns a valid list of n wagons.
func randomList(r *rand.Rand, n int) []api.Wagon {
	var l []api.Wagon
	for i := range n {
		l = append(l, randomWagon(r, i))
	}
	return l
}

// integers returns numbers around a range of a part of a wagon, numbers that look like them in one or two bytes, and the ends of int.
func integers() []int {
	l := []int{math.MinInt, math.MinInt + 1, math.MaxInt, math.MaxInt - 1, -256 + 4, -65536 + 200}
	for _, n := range []int{0, 9, 50, 80, 120, 255, 400, 500, 600, 2000, 65535, 65536, 65536 + 200, 65536 + 600} {
		l = append(l, n-1, n, n+1, -n)
	}
	for p := range 62 {
		l = append(l, 1<<p, -1<<p, 1<<p+4, 1<<p+200)
	}
	return l
}

func random(stream uint64) *rand.Rand {
	return rand.New(rand.NewPCG(6, stream))
}
