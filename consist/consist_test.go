package consist_test

import (
	"bytes"
	"fmt"
	"math/big"
	"slices"
	"strings"
	"testing"

	"humpyard/api"
	"humpyard/consist"
)

// Numbers of each kind.
const (
	flatNumber = "000000000000"
	tankNumber = "000070000005"
	twoNumber  = "318027731237"
	sixNumber  = "000090000001"
)

func flat() api.Wagon {
	return api.Wagon{Number: flatNumber, Length: 200, Axles: 4, Mass: 600, Brake: 500, Goods: 3, Gentle: true, Dest: "mu1"}
}

func tank() api.Wagon {
	return api.Wagon{Number: tankNumber, Length: 160, Axles: 4, Mass: 800, Brake: 700, Goods: 9, Dest: "hafen"}
}

func two() api.Wagon {
	return api.Wagon{Number: twoNumber, Length: 80, Axles: 2, Mass: 50, Dest: "a"}
}

func six() api.Wagon {
	return api.Wagon{Number: sixNumber, Length: 400, Axles: 6, Mass: 2000, Brake: 2000, Goods: 1, Gentle: true, Dest: "zzzzzzzzz999"}
}

func wagons() []api.Wagon {
	return []api.Wagon{flat(), tank(), two(), six()}
}

// with returns a wagon that is changed.
func with(w api.Wagon, change func(w *api.Wagon)) api.Wagon {
	change(&w)
	return w
}

// P6.1

func sameValid(t *testing.T, w api.Wagon, want api.Errno) {
	t.Helper()
	if e := consist.Valid(w); e != want {
		t.Errorf("Valid(%+v): error %d, want %d", w, e, want)
	}
}

func TestP6_1Valid(t *testing.T) {
	for _, w := range wagons() {
		for _, gentle := range []bool{false, true} {
			w.Gentle = gentle
			sameValid(t, w, api.OK)
		}
	}
	r := random(1)
	for range 20000 {
		sameValid(t, randomWagon(r, r.IntN(1000)), api.OK)
	}
}

// The error of the number comes first, also where all the other parts are wrong.
func TestP6_1ValidNumber(t *testing.T) {
	wrong := api.Wagon{Length: 79, Axles: 3, Mass: 49, Brake: -1, Goods: 10}
	for _, c := range []struct {
		number string
		e      api.Errno
	}{
		{"000000000001", api.ErrChecksum}, {"318027731236", api.ErrChecksum}, {"318027731327", api.ErrChecksum}, {"000090000000", api.ErrChecksum},
		{"", api.ErrForm}, {"0000", api.ErrForm}, {"00000000000", api.ErrForm}, {"0000000000000", api.ErrForm}, {"31 80 2773 123-7", api.ErrForm},
		{"00000000000a", api.ErrForm}, {"a00000000000", api.ErrForm}, {"00000000000/", api.ErrForm}, {"00000000000:", api.ErrForm}, {"00000000000\xff", api.ErrForm},
		{strings.Repeat("0", 1000000), api.ErrForm},
	} {
		wrong.Number = c.number
		sameValid(t, wrong, c.e)
		for _, w := range wagons() {
			w.Number = c.number
			sameValid(t, w, c.e)
		}
	}
}

func TestP6_1ValidAxles(t *testing.T) {
	numbers := map[int][]string{
		4: {flatNumber, tankNumber, numbered("00001000000"), numbered("00003000000"), numbered("00005000000"), numbered("00006000000"), numbered("99998999999"), numbered("22290222222")},
		2: {twoNumber, numbered("99992999999"), numbered("00004000000"), numbered("99994999999")},
		6: {sixNumber, numbered("22229222222"), numbered("77779777777")},
	}
	for want, l := range numbers {
		for _, number := range l {
			for _, n := range append(integers(), 0, 1, 2, 3, 4, 5, 6, 7, 8, -2, -4, -6) {
				e := api.ErrInvalid
				if n == want {
					e = api.OK
				}
				sameValid(t, with(six(), func(w *api.Wagon) { w.Number = number; w.Axles = n }), e)
			}
		}
	}
}

func TestP6_1ValidLength(t *testing.T) {
	for _, w := range wagons() {
		shortest := 80
		if w.Number == sixNumber {
			shortest = 120
		}
		for _, n := range append(integers(), 79, 80, 81, 119, 120, 121, 399, 400, 401) {
			e := api.OK
			if n < shortest || n > 400 {
				e = api.ErrRange
			}
			sameValid(t, with(w, func(w *api.Wagon) { w.Length = n }), e)
		}
	}
}

func TestP6_1ValidMass(t *testing.T) {
	for _, w := range wagons() {
		for _, n := range append(integers(), 49, 50, 51, 1999, 2000, 2001) {
			for _, brake := range []int{0, 50, n - 1, n, n + 1} {
				e := api.OK
				if n < 50 || n > 2000 || brake < 0 || brake > n {
					e = api.ErrRange
				}
				sameValid(t, with(w, func(w *api.Wagon) { w.Mass = n; w.Brake = brake }), e)
			}
		}
	}
}

func TestP6_1ValidBrake(t *testing.T) {
	for _, mass := range []int{50, 51, 600, 1999, 2000} {
		for _, n := range append(integers(), -1, 0, 1, mass-1, mass, mass+1) {
			e := api.OK
			if n < 0 || n > mass {
				e = api.ErrRange
			}
			sameValid(t, with(flat(), func(w *api.Wagon) { w.Mass = mass; w.Brake = n }), e)
		}
	}
}

func TestP6_1ValidGoods(t *testing.T) {
	for _, gentle := range []bool{false, true} {
		for _, n := range append(integers(), -17, -16, -1, 0, 1, 2, 3, 4, 5, 6, 7, 8, 9, 10, 15, 16, 25, 26) {
			e := api.OK
			if n < 0 || n > 9 {
				e = api.ErrRange
			}
			sameValid(t, with(flat(), func(w *api.Wagon) { w.Goods = n; w.Gentle = gentle }), e)
		}
	}
}

func TestP6_1ValidName(t *testing.T) {
	for _, w := range wagons() {
		for _, name := range []string{"a", "z", "0", "9", "mu1", "1mu", "000", "abcdefghijkl", "zzzzzzzzzzzz", "999999999999"} {
			w.Dest = name
			sameValid(t, w, api.OK)
		}
		for _, name := range []string{"", "`", "{", "/", ":", "A", "Z", " ", "-", "_", "\x00", "\xff", "Mu", "mU", "a b", " ab", "ab ", "ä", "é1", "\u0663", "\uff41", "abcdefghijklm", "abcdefghijk\u00e9", "abcdefghijkA", "Abcdefghijkl", strings.Repeat("a", 255), strings.Repeat("a", 256), strings.Repeat("a", 268), strings.Repeat("a", 1000000)} {
			w.Dest = name
			sameValid(t, w, api.ErrName)
		}
	}
}

// Each byte at each place of names of all lengths.
func TestP6_1ValidNameBytes(t *testing.T) {
	w := flat()
	for n := range 20 {
		for place := range n {
			for c := range 256 {
				b := bytes.Repeat([]byte{'m'}, n)
				b[place] = byte(c)
				w.Dest = string(b)
				e := api.ErrName
				if n <= 12 && ('a' <= c && c <= 'z' || '0' <= c && c <= '9') {
					e = api.OK
				}
				sameValid(t, w, e)
			}
		}
	}
}

// Every choice of the parts that are wrong: the first one in the order of P6.1 says which error it is.
func TestP6_1ValidOrder(t *testing.T) {
	parts := []struct {
		spoil func(w *api.Wagon)
		e     api.Errno
	}{
		{func(w *api.Wagon) { w.Number = "000090000002" }, api.ErrChecksum},
		{func(w *api.Wagon) { w.Axles = 8 }, api.ErrInvalid},
		{func(w *api.Wagon) { w.Length = 119 }, api.ErrRange},
		{func(w *api.Wagon) { w.Mass = 2001 }, api.ErrRange},
		{func(w *api.Wagon) { w.Brake = -1 }, api.ErrRange},
		{func(w *api.Wagon) { w.Goods = 10 }, api.ErrRange},
		{func(w *api.Wagon) { w.Dest = "" }, api.ErrName},
	}
	for set := range 1 << len(parts) {
		w, want := six(), api.OK
		for i, p := range slices.Backward(parts) {
			if set>>i&1 == 1 {
				p.spoil(&w)
				want = p.e
			}
		}
		sameValid(t, w, want)
		if set&1 == 1 {
			w.Number = "00009000000"
			sameValid(t, w, api.ErrForm)
		}
	}
}

func sameCheck(t *testing.T, b []byte, want int) {
	t.Helper()
	before := bytes.Clone(b)
	if n := consist.Check(b); n != want {
		t.Errorf("Check of %d bytes %v...: %d, want %d", len(b), b[:min(len(b), 30)], n, want)
	}
	if !bytes.Equal(b, before) {
		t.Errorf("Check has changed its bytes")
	}
}

func TestP6_1Check(t *testing.T) {
	for _, c := range []struct {
		b []byte
		n int
	}{
		{nil, 0}, {[]byte{}, 0}, {[]byte{0}, 0}, {[]byte{0, 0, 0, 0}, 0},
		{[]byte{1}, 1}, {[]byte{255}, 255}, {[]byte{0, 1}, 2}, {[]byte{1, 2}, 5}, {[]byte{2, 1}, 4}, {[]byte{1, 2, 3}, 14}, {[]byte{3, 2, 1}, 10},
		// 22 bytes of 255 have the sum 255 * 253 = 64515, one more 255 * 23 = 5865
		{bytes.Repeat([]byte{255}, 22), 64515}, {bytes.Repeat([]byte{255}, 23), 4859},
		// 64515 and 23 * 43 = 989, 23 * 44 = 1012
		{append(bytes.Repeat([]byte{255}, 22), 43), 65504}, {append(bytes.Repeat([]byte{255}, 22), 44), 6},
		// the sum is 65520, 65521 and 65522
		{append([]byte{240, 0, 0}, append(make([]byte, 252), 255)...), 65520},
		{append([]byte{241, 0, 0}, append(make([]byte, 252), 255)...), 0},
		{append([]byte{242, 0, 0}, append(make([]byte, 252), 255)...), 1},
	} {
		sameCheck(t, c.b, c.n)
	}
}

// One byte that is not 0, in each place: the one with the index 65520 adds nothing.
func TestP6_1CheckPlaces(t *testing.T) {
	b := make([]byte, 66000)
	for i := range 3000 {
		b[i] = byte(i%255 + 1)
		sameCheck(t, b[:3000], (i+1)*(i%255+1)%65521)
		b[i] = 0
	}
	for i, want := range map[int]int{65518: 65521 - 510, 65519: 65521 - 255, 65520: 0, 65521: 255, 65522: 510} {
		b[i] = 255
		sameCheck(t, b, want)
		b[i] = 0
	}
}

func TestP6_1CheckDefinition(t *testing.T) {
	r := random(2)
	for n := range 3000 {
		b := make([]byte, n)
		for i := range b {
			b[i] = byte(r.IntN(256))
		}
		sameCheck(t, b, check(b))
	}
	for _, n := range []int{65519, 65520, 65521, 65522, 1 << 20} {
		b := bytes.Repeat([]byte{255}, n)
		sameCheck(t, b, check(b))
	}
}

// The sum of so many bytes is greater than the greatest int (R7).
func TestP6_1CheckLong(t *testing.T) {
	if testing.Short() {
		t.Skip("takes memory")
	}
	const n = 1<<28 + 1<<21
	sum := big.NewInt(n)
	sum.Mul(sum, big.NewInt(n+1)).Mul(sum, big.NewInt(255)).Rsh(sum, 1)
	if sum.IsInt64() {
		t.Fatal("the sum is an int")
	}
	want := sum.Mod(sum, big.NewInt(65521)).Int64()
	if got := consist.Check(bytes.Repeat([]byte{255}, n)); int64(got) != want {
		t.Errorf("Check of %d bytes: %d, want %d", n, got, want)
	}
}

// P6.2

// sameList compares what Total and Encode return for a list with what they must return, and checks that they leave the list as it was.
func sameList(t *testing.T, l []api.Wagon, s sums, b []byte) {
	t.Helper()
	before := slices.Clone(l)
	length, mass, axles, e := consist.Total(l)
	if got := (sums{length, mass, axles, e}); got != s {
		t.Errorf("Total of %d wagons %+v: %+v, want %+v", len(l), l[:min(len(l), 4)], got, s)
	}
	if got, e := consist.Encode(l); !bytes.Equal(got, b) || e != s.e {
		t.Errorf("Encode of %d wagons %+v: %v, error %d; want %v, error %d", len(l), l[:min(len(l), 4)], got, e, b, s.e)
	}
	if !slices.Equal(l, before) {
		t.Errorf("%+v has become %+v", before, l)
	}
}

func sameAsDefined(t *testing.T, l []api.Wagon) {
	t.Helper()
	b, _ := encode(l)
	sameList(t, l, total(l), b)
}

func TestP6_2TotalAndEncode(t *testing.T) {
	for _, c := range []struct {
		l []api.Wagon
		s sums
		b []byte
	}{
		{nil, sums{}, []byte{0, 0, 0}},
		{[]api.Wagon{}, sums{}, []byte{0, 0, 0}},
		{[]api.Wagon{flat()}, sums{length: 200, mass: 600, axles: 4}, sealed(1, 0, 0, 0, 0, 0, 0, 0, 200, 4, 2, 88, 1, 244, 19, 3, 'm', 'u', '1')},
		{[]api.Wagon{two()}, sums{length: 80, mass: 50, axles: 2}, sealed(1, 0x31, 0x80, 0x27, 0x73, 0x12, 0x37, 0, 80, 2, 0, 50, 0, 0, 0, 1, 'a')},
		{[]api.Wagon{two(), flat()}, sums{length: 280, mass: 650, axles: 6}, sealed(
			2, 0x31, 0x80, 0x27, 0x73, 0x12, 0x37, 0, 80, 2, 0, 50, 0, 0, 0, 1, 'a',
			0, 0, 0, 0, 0, 0, 0, 200, 4, 2, 88, 1, 244, 19, 3, 'm', 'u', '1')},
		{[]api.Wagon{six(), tank()}, sums{length: 560, mass: 2800, axles: 10}, sealed(
			2, 0, 0, 0x90, 0, 0, 0x01, 1, 144, 6, 7, 208, 7, 208, 17, 12, 'z', 'z', 'z', 'z', 'z', 'z', 'z', 'z', 'z', '9', '9', '9',
			0, 0, 0x70, 0, 0, 0x05, 0, 160, 4, 3, 32, 2, 188, 9, 5, 'h', 'a', 'f', 'e', 'n')},
		// the check sum in numbers: 1*1 + 9*200 + 10*4 + 11*2 + 12*88 + 13*1 + 14*244 + 16*1 + 17*48 = 7180
		{[]api.Wagon{with(flat(), func(w *api.Wagon) { w.Goods = 0; w.Gentle = false; w.Dest = "0" })}, sums{length: 200, mass: 600, axles: 4},
			[]byte{1, 0, 0, 0, 0, 0, 0, 0, 200, 4, 2, 88, 1, 244, 0, 1, '0', 7180 >> 8, 7180 & 255}},
	} {
		sameList(t, c.l, c.s, c.b)
		sameAsDefined(t, c.l)
	}
}

// Each part of a wagon alone, with the values in and around its range.
func TestP6_2EncodeParts(t *testing.T) {
	for _, w := range wagons() {
		for _, gentle := range []bool{false, true} {
			for goods := -1; goods <= 26; goods++ {
				sameAsDefined(t, []api.Wagon{with(w, func(w *api.Wagon) { w.Goods = goods; w.Gentle = gentle })})
			}
		}
		for n := 70; n <= 410; n++ {
			sameAsDefined(t, []api.Wagon{with(w, func(w *api.Wagon) { w.Length = n })})
		}
		for n := 40; n <= 2010; n++ {
			sameAsDefined(t, []api.Wagon{with(w, func(w *api.Wagon) { w.Mass = n; w.Brake = n / 3 })})
			sameAsDefined(t, []api.Wagon{with(w, func(w *api.Wagon) { w.Mass = n; w.Brake = n })})
		}
		for n := range 14 {
			sameAsDefined(t, []api.Wagon{with(w, func(w *api.Wagon) { w.Dest = letters[n : 2*n] })})
		}
	}
}

func TestP6_2Definition(t *testing.T) {
	r := random(3)
	for n := range 97 {
		for range 10 {
			sameAsDefined(t, randomList(r, n))
		}
	}
}

// equal returns n wagons that differ in their Numbers only.
func equal(w api.Wagon, n int) []api.Wagon {
	l := slices.Repeat([]api.Wagon{w}, n)
	for i := range l {
		l[i].Number = numbered(fmt.Sprintf("%s%06d", w.Number[:5], i))
	}
	return l
}

func TestP6_2Limit(t *testing.T) {
	for _, w := range wagons() {
		most := equal(w, api.MaxWagons)
		b, _ := encode(most)
		sameList(t, most, sums{length: 96 * w.Length, mass: 96 * w.Mass, axles: 96 * w.Axles}, b)
		sameList(t, equal(w, 97), sums{e: api.ErrLimit}, nil)
		sameList(t, equal(w, 255), sums{e: api.ErrLimit}, nil)
		sameList(t, equal(w, 256), sums{e: api.ErrLimit}, nil)
		sameList(t, equal(w, 257), sums{e: api.ErrLimit}, nil)
	}
}

func TestP6_2Errors(t *testing.T) {
	bad := with(tank(), func(w *api.Wagon) { w.Dest = "?" })
	copied := with(six(), func(w *api.Wagon) { w.Number = flatNumber; w.Axles = 4 })
	badCopy := with(copied, func(w *api.Wagon) { w.Mass = 0 })
	for _, c := range []struct {
		l []api.Wagon
		e api.Errno
	}{
		{[]api.Wagon{{}}, api.ErrForm},
		{[]api.Wagon{bad}, api.ErrName},
		{[]api.Wagon{flat(), flat()}, api.ErrDuplicate},
		{[]api.Wagon{flat(), copied}, api.ErrDuplicate},
		{[]api.Wagon{flat(), two(), six(), copied}, api.ErrDuplicate},
		{[]api.Wagon{two(), flat(), six(), copied}, api.ErrDuplicate},
		// a wagon that is invalid and has the Number of an earlier one
		{[]api.Wagon{flat(), badCopy}, api.ErrRange},
		{[]api.Wagon{badCopy, flat()}, api.ErrRange},
		{[]api.Wagon{{}, {}}, api.ErrForm},
		// the errors of a wagon come before those of the next one
		{[]api.Wagon{flat(), flat(), bad}, api.ErrDuplicate},
		{[]api.Wagon{flat(), flat(), badCopy}, api.ErrDuplicate},
		{[]api.Wagon{flat(), bad, flat()}, api.ErrName},
		{[]api.Wagon{bad, flat(), flat()}, api.ErrName},
		{[]api.Wagon{flat(), badCopy, bad}, api.ErrRange},
		{[]api.Wagon{flat(), bad, badCopy}, api.ErrName},
		// a duplicate is valid
		{[]api.Wagon{bad, bad}, api.ErrName},
		{append(equal(flat(), 95), flat()), api.ErrDuplicate},
		{append(equal(flat(), 95), bad), api.ErrName},
		{make([]api.Wagon, 96), api.ErrForm},
		// too many wagons come before all the others
		{make([]api.Wagon, 97), api.ErrLimit},
		{append(equal(flat(), 96), bad), api.ErrLimit},
		{append([]api.Wagon{bad}, equal(flat(), 96)...), api.ErrLimit},
		{slices.Repeat([]api.Wagon{flat()}, 97), api.ErrLimit},
		{make([]api.Wagon, 352), api.ErrLimit},
		{make([]api.Wagon, 100000), api.ErrLimit},
	} {
		sameList(t, c.l, sums{e: c.e}, nil)
	}
}

// One wagon of a list is replaced by one that is wrong, or by another one of the list.
func TestP6_2ErrorsDefinition(t *testing.T) {
	r := random(4)
	for range 2000 {
		l := randomList(r, 2+r.IntN(8))
		for range 1 + r.IntN(3) {
			w := &l[r.IntN(len(l))]
			other := l[r.IntN(len(l))]
			switch r.IntN(6) {
			case 0:
				w.Number = other.Number
			case 1:
				*w = other
			case 2:
				w.Axles = []int{0, 2, 4, 6}[r.IntN(4)]
			case 3:
				w.Mass, w.Length = other.Length, other.Mass
			case 4:
				w.Dest += other.Dest
			case 5:
				w.Number = strings.Replace(w.Number, "3", "4", 1)
			}
		}
		sameAsDefined(t, l)
	}
}

// Every field has any value (R1).
func TestP6_2AnyWagon(t *testing.T) {
	r := random(5)
	values := integers()
	some := func() int { return values[r.IntN(len(values))] }
	numbers := []string{"", flatNumber, twoNumber, sixNumber, tankNumber, "000000000001", "00000000000x", "\xff"}
	names := []string{"", "a", "abcdefghijkl", "abcdefghijklm", "A", "\xff\xfe", "\x00"}
	for range 20000 {
		w := api.Wagon{Number: numbers[r.IntN(len(numbers))], Length: some(), Axles: some(), Mass: some(), Brake: some(), Goods: some(), Dest: names[r.IntN(len(names))]}
		if r.IntN(3) > 0 {
			w.Axles = []int{2, 4, 6}[r.IntN(3)]
		}
		sameValid(t, w, valid(w))
		sameAsDefined(t, []api.Wagon{flat(), w})
	}
}

// P6.3

func sameDecode(t *testing.T, b []byte, want []api.Wagon, wantE api.Errno) {
	t.Helper()
	before := bytes.Clone(b)
	l, e := consist.Decode(b)
	if !slices.Equal(l, want) || e != wantE {
		t.Errorf("Decode of %d bytes %v: %+v, error %d; want %+v, error %d", len(b), b[:min(len(b), 100)], l, e, want, wantE)
	}
	if !bytes.Equal(b, before) {
		t.Errorf("Decode has changed its bytes %v", before[:min(len(b), 100)])
	}
}

func decodeAsDefined(t *testing.T, b []byte) {
	t.Helper()
	l, e := decode(b)
	sameDecode(t, b, l, e)
}

func TestP6_3Decode(t *testing.T) {
	for _, c := range []struct {
		b []byte
		l []api.Wagon
	}{
		{[]byte{0, 0, 0}, nil},
		{sealed(1, 0, 0, 0, 0, 0, 0, 0, 200, 4, 2, 88, 1, 244, 19, 3, 'm', 'u', '1'), []api.Wagon{flat()}},
		{sealed(1, 0x31, 0x80, 0x27, 0x73, 0x12, 0x37, 0, 80, 2, 0, 50, 0, 0, 0, 1, 'a'), []api.Wagon{two()}},
		{sealed(2, 0, 0, 0x90, 0, 0, 0x01, 1, 144, 6, 7, 208, 7, 208, 17, 12, 'z', 'z', 'z', 'z', 'z', 'z', 'z', 'z', 'z', '9', '9', '9',
			0, 0, 0x70, 0, 0, 0x05, 0, 160, 4, 3, 32, 2, 188, 9, 5, 'h', 'a', 'f', 'e', 'n'), []api.Wagon{six(), tank()}},
	} {
		sameDecode(t, c.b, c.l, api.OK)
		decodeAsDefined(t, c.b)
	}
}

func TestP6_3DecodeShort(t *testing.T) {
	for _, c := range []struct {
		b []byte
		e api.Errno
	}{
		{nil, api.ErrTruncated}, {[]byte{}, api.ErrTruncated}, {[]byte{0}, api.ErrTruncated}, {[]byte{0, 0}, api.ErrTruncated}, {[]byte{0, 0, 0}, api.OK},
		{[]byte{0, 0, 1}, api.ErrChecksum}, {[]byte{0, 1, 0}, api.ErrChecksum}, {[]byte{0, 255, 241}, api.ErrChecksum}, {[]byte{0, 0, 0, 0}, api.ErrForm}, {[]byte{0, 1, 2, 3}, api.ErrForm},
		{[]byte{1}, api.ErrTruncated}, {[]byte{1, 0}, api.ErrTruncated}, {[]byte{1, 0, 1}, api.ErrTruncated}, {[]byte{1, 0, 0, 0}, api.ErrTruncated}, {[]byte{255, 255, 255, 255}, api.ErrTruncated},
	} {
		sameDecode(t, c.b, nil, c.e)
		decodeAsDefined(t, c.b)
	}
	for a := range 256 {
		decodeAsDefined(t, []byte{byte(a)})
		for b := range 256 {
			decodeAsDefined(t, []byte{byte(a), byte(b)})
			decodeAsDefined(t, []byte{0, byte(a), byte(b)})
		}
	}
}

// The consequences: Decode of what Encode returns, and Encode of what Decode returns.
func TestP6_3DecodeOfEncode(t *testing.T) {
	r := random(6)
	lists := [][]api.Wagon{nil, {}, {flat()}, wagons(), equal(flat(), 96), equal(six(), 96)}
	for n := range 97 {
		lists = append(lists, randomList(r, n), randomList(r, n), randomList(r, n))
	}
	for _, l := range lists {
		b, e := consist.Encode(l)
		if e != api.OK {
			t.Fatalf("Encode of %d wagons: error %d", len(l), e)
		}
		sameDecode(t, b, l, api.OK)
		list, e := consist.Decode(b)
		if e != api.OK {
			t.Fatalf("Decode: error %d", e)
		}
		if again, e := consist.Encode(list); !bytes.Equal(again, b) || e != api.OK {
			t.Errorf("Encode of what Decode returns: %v, error %d; want %v", again, e, b)
		}
	}
}

// Cut off at each place, also with wrong digits and goods, with wagons that are invalid and with too many of them, and where the last two bytes are the check sum of the others.
func TestP6_3DecodeCutOff(t *testing.T) {
	wrong := wagons()
	wrong[0].Number = "f00000000000"
	wrong[1].Goods = 26
	wrong[2].Mass = 0
	wrong[3].Number = "0000000000ff"
	for _, b := range [][]byte{message(nil), message(wagons()), message(wrong), message(equal(flat(), 96)), message(equal(flat(), 97)), message(equal(two(), 255)), message(unnamed97())} {
		for n := range b {
			sameDecode(t, b[:n], nil, api.ErrTruncated)
			if n >= 2 && n+2 < len(b) {
				sameDecode(t, sealed(b[:n-2]...), nil, api.ErrTruncated)
			}
		}
	}
}

// unnamed97 returns too many wagons, without a Dest.
func unnamed97() []api.Wagon {
	return slices.Repeat([]api.Wagon{{Number: flatNumber}}, 97)
}

// Bytes follow: that comes before a wrong check sum, a wrong digit and the errors of Encode.
func TestP6_3DecodeBytesBehind(t *testing.T) {
	bad := six()
	bad.Number = "a00000000000"
	late := six()
	late.Mass = 49
	for _, l := range [][]api.Wagon{nil, {flat()}, wagons(), {bad}, {late}, {flat(), flat()}, equal(flat(), 97)} {
		b := message(l)
		for _, more := range [][]byte{{0}, {255}, {0, 0}, {0, 0, 0}, b, bytes.Repeat([]byte{1}, 300)} {
			long := slices.Concat(b, more)
			sameDecode(t, long, nil, api.ErrForm)
			sameDecode(t, sealed(long...), nil, api.ErrForm)
			long[len(b)-1]++
			sameDecode(t, long, nil, api.ErrForm)
		}
	}
}

// A check sum that is wrong, also by 65521, comes before a wrong digit and the errors of Encode.
func TestP6_3DecodeChecksum(t *testing.T) {
	digit, goods, invalid := flat(), flat(), flat()
	digit.Number = "00000000000a"
	goods.Goods = 10
	goods.Gentle = false
	invalid.Axles = 3
	for _, l := range [][]api.Wagon{nil, {flat()}, {digit}, {goods}, {invalid}, {flat(), flat()}, equal(flat(), 97), wagons()} {
		b := message(l)
		body := b[:len(b)-2]
		for n := range 65536 {
			if n == check(body) {
				continue
			}
			b[len(b)-2], b[len(b)-1] = byte(n>>8), byte(n)
			if list, e := consist.Decode(b); len(list) != 0 || e != api.ErrChecksum {
				t.Fatalf("Decode(%v): %+v, error %d; want ErrChecksum", b, list, e)
			}
		}
	}
	// The check sum is 0: 65521 is none, although it leaves the remainder 0.
	sameDecode(t, []byte{0, 255, 241}, nil, api.ErrChecksum)
}

// Each digit of each Number is replaced by each value that is none; the wagon is valid but for that, or not.
func TestP6_3DecodeDigits(t *testing.T) {
	for _, l := range [][]api.Wagon{{flat()}, wagons(), {{Number: flatNumber}, {Number: flatNumber}}, equal(tank(), 97), slices.Repeat([]api.Wagon{six()}, 200)} {
		for i := 0; i < len(l); i += max(1, len(l)/5) {
			for place := range 12 {
				for _, c := range "abcdef" {
					wrong := slices.Clone(l)
					n := wrong[i].Number
					wrong[i].Number = n[:place] + string(c) + n[place+1:]
					sameDecode(t, message(wrong), nil, api.ErrForm)
				}
			}
		}
	}
}

// Every byte with goods, in each wagon of a list.
func TestP6_3DecodeGoods(t *testing.T) {
	for i := range wagons() {
		for n := range 256 {
			l := wagons()
			l[i].Goods, l[i].Gentle = n, false
			b := message(l)
			if n < 10 || 16 <= n && n <= 25 {
				l[i].Goods, l[i].Gentle = n%16, n >= 16
				sameDecode(t, b, l, api.OK)
			} else {
				sameDecode(t, b, nil, api.ErrForm)
			}
			decodeAsDefined(t, b)
		}
	}
}

// Goods and digits that are none come before all errors of Encode, wherever they stand.
func TestP6_3DecodeFormFirst(t *testing.T) {
	digit := with(two(), func(w *api.Wagon) { w.Number = "3180277312a7" })
	goods := with(two(), func(w *api.Wagon) { w.Goods = 15 })
	gentle := with(two(), func(w *api.Wagon) { w.Goods = 10; w.Gentle = true })
	for _, form := range []api.Wagon{digit, goods, gentle} {
		for _, l := range [][]api.Wagon{
			{with(flat(), func(w *api.Wagon) { w.Number = "000000000001" })},
			{with(flat(), func(w *api.Wagon) { w.Axles = 2 })},
			{with(flat(), func(w *api.Wagon) { w.Length = 0 })},
			{with(flat(), func(w *api.Wagon) { w.Dest = "" })},
			{flat(), flat()},
			equal(flat(), 96),
			equal(flat(), 254),
		} {
			sameDecode(t, message(append(l, form)), nil, api.ErrForm)
			sameDecode(t, message(append([]api.Wagon{form}, l...)), nil, api.ErrForm)
		}
	}
}

// Lists that can be read, and whose Encode returns an error.
func TestP6_3DecodeErrorsOfEncode(t *testing.T) {
	for _, c := range []struct {
		change func(w *api.Wagon)
		e      api.Errno
	}{
		{func(w *api.Wagon) { w.Number = "000000000001" }, api.ErrChecksum},
		{func(w *api.Wagon) { w.Number = "999999999999" }, api.ErrChecksum},
		{func(w *api.Wagon) { w.Number = "000000000001"; w.Axles = 0; w.Length = 0; w.Dest = "" }, api.ErrChecksum},
		{func(w *api.Wagon) { w.Axles = 0 }, api.ErrInvalid},
		{func(w *api.Wagon) { w.Axles = 2 }, api.ErrInvalid},
		{func(w *api.Wagon) { w.Axles = 6 }, api.ErrInvalid},
		{func(w *api.Wagon) { w.Axles = 255; w.Mass = 0 }, api.ErrInvalid},
		{func(w *api.Wagon) { w.Number = sixNumber }, api.ErrInvalid},
		{func(w *api.Wagon) { w.Number = sixNumber; w.Axles = 6; w.Length = 119 }, api.ErrRange},
		{func(w *api.Wagon) { w.Number = sixNumber; w.Axles = 6; w.Length = 120 }, api.OK},
		{func(w *api.Wagon) { w.Length = 79 }, api.ErrRange},
		{func(w *api.Wagon) { w.Length = 80 }, api.OK},
		{func(w *api.Wagon) { w.Length = 400 }, api.OK},
		{func(w *api.Wagon) { w.Length = 401 }, api.ErrRange},
		{func(w *api.Wagon) { w.Length = 65535 }, api.ErrRange},
		{func(w *api.Wagon) { w.Mass = 49; w.Brake = 0 }, api.ErrRange},
		{func(w *api.Wagon) { w.Mass = 50; w.Brake = 0 }, api.OK},
		{func(w *api.Wagon) { w.Mass = 2000 }, api.OK},
		{func(w *api.Wagon) { w.Mass = 2001 }, api.ErrRange},
		{func(w *api.Wagon) { w.Mass = 65535; w.Brake = 65535 }, api.ErrRange},
		{func(w *api.Wagon) { w.Brake = 0 }, api.OK},
		{func(w *api.Wagon) { w.Brake = w.Mass }, api.OK},
		{func(w *api.Wagon) { w.Brake = w.Mass + 1; w.Dest = "" }, api.ErrRange},
		{func(w *api.Wagon) { w.Brake = 65535 }, api.ErrRange},
		{func(w *api.Wagon) { w.Dest = "" }, api.ErrName},
		{func(w *api.Wagon) { w.Dest = "A" }, api.ErrName},
		{func(w *api.Wagon) { w.Dest = "\x00" }, api.ErrName},
		{func(w *api.Wagon) { w.Dest = "abcdefghijkl" }, api.OK},
		{func(w *api.Wagon) { w.Dest = "abcdefghijklm" }, api.ErrName},
		{func(w *api.Wagon) { w.Dest = strings.Repeat("a", 255) }, api.ErrName},
	} {
		for i := range 3 {
			l := []api.Wagon{tank(), two(), equal(six(), 5)[4]}
			l[i] = with(flat(), c.change)
			b := message(l)
			decodeAsDefined(t, b)
			if c.e == api.OK {
				sameDecode(t, b, l, api.OK)
			} else {
				sameDecode(t, b, nil, c.e)
			}
		}
	}
}

func TestP6_3DecodeErrorsOfEncodeOrder(t *testing.T) {
	bad := with(tank(), func(w *api.Wagon) { w.Dest = "?" })
	badCopy := with(flat(), func(w *api.Wagon) { w.Mass = 0; w.Brake = 0 })
	for _, c := range []struct {
		l []api.Wagon
		e api.Errno
	}{
		{[]api.Wagon{flat(), flat()}, api.ErrDuplicate},
		{[]api.Wagon{flat(), two(), flat(), bad}, api.ErrDuplicate},
		{[]api.Wagon{flat(), bad, flat()}, api.ErrName},
		{[]api.Wagon{flat(), badCopy}, api.ErrRange},
		{append(equal(flat(), 95), flat()), api.ErrDuplicate},
		{equal(flat(), 97), api.ErrLimit},
		{equal(six(), 255), api.ErrLimit},
		{append(equal(flat(), 96), bad), api.ErrLimit},
		{slices.Repeat([]api.Wagon{flat()}, 97), api.ErrLimit},
		{unnamed97(), api.ErrLimit},
	} {
		sameDecode(t, message(c.l), nil, c.e)
	}
}

// samples returns encodings in which bytes are changed; some have wagons that follow a Dest, and the last one has a duplicate.
func samples() [][]byte {
	return [][]byte{message([]api.Wagon{flat()}), message(wagons()), message(nil), message([]api.Wagon{two(), six(), two()})}
}

// Each byte is replaced by each other one, and the check sum is set right again or not. A change that keeps the lengths is found.
func TestP6_3DecodeReplaced(t *testing.T) {
	for _, b := range samples() {
		for i := range b {
			for c := range 256 {
				changed := bytes.Clone(b)
				changed[i] = byte(c)
				decodeAsDefined(t, changed)
				if _, e := consist.Decode(changed); e == api.OK && byte(c) != b[i] {
					t.Errorf("Decode(%v), changed at %d: no error", changed, i)
				}
				decodeAsDefined(t, sealed(changed[:len(b)-2]...))
			}
		}
	}
}

// Each two bytes that differ are exchanged.
func TestP6_3DecodeExchanged(t *testing.T) {
	for _, b := range samples() {
		for i := range b {
			for k := range i {
				changed := bytes.Clone(b)
				changed[i], changed[k] = b[k], b[i]
				decodeAsDefined(t, changed)
				if _, e := consist.Decode(changed); e == api.OK && b[i] != b[k] {
					t.Errorf("Decode(%v), exchanged at %d and %d: no error", changed, i, k)
				}
				decodeAsDefined(t, sealed(changed[:len(b)-2]...))
			}
		}
	}
}

// In the longest encoding, each change of a byte and each exchange with the first wagon is found.
func TestP6_3DecodeLongest(t *testing.T) {
	b := message(equal(six(), 96))
	for i := range b {
		for _, d := range []byte{1, 2, 127, 128, 255} {
			changed := bytes.Clone(b)
			changed[i] += d
			if l, e := consist.Decode(changed); len(l) != 0 || e == api.OK {
				t.Errorf("changed at %d by %d: %d wagons, error %d", i, d, len(l), e)
			}
		}
		for k := range min(i, 28) {
			changed := bytes.Clone(b)
			changed[i], changed[k] = b[k], b[i]
			if _, e := consist.Decode(changed); (e == api.OK) != (b[i] == b[k]) {
				t.Errorf("exchanged at %d and %d, which are %d and %d: error %d", i, k, b[i], b[k], e)
			}
		}
	}
}

// Any bytes (R1), most of them with few wagons and short names.
func TestP6_3DecodeAnyBytes(t *testing.T) {
	r := random(7)
	for range 30000 {
		b := make([]byte, r.IntN(120))
		limit := []int{3, 20, 256}[r.IntN(3)]
		for i := range b {
			b[i] = byte(r.IntN(limit))
		}
		decodeAsDefined(t, b)
		decodeAsDefined(t, sealed(b...))
		if at := offsets(b); at != nil {
			decodeAsDefined(t, sealed(b[:at[len(at)-1]]...))
		}
	}
	decodeAsDefined(t, make([]byte, 1<<20))
	decodeAsDefined(t, bytes.Repeat([]byte{255}, 1<<20))
}

// Encodings in which a few bytes are replaced, left out or doubled, with the right check sum.
func TestP6_3DecodeSpoilt(t *testing.T) {
	some := []byte{0, 1, 2, 4, 6, 9, 10, 16, 25, 26, 80, 'a', 'z', 0x90, 0xa0, 255}
	r := random(8)
	for range 20000 {
		b := message(randomList(r, 1+r.IntN(3)))
		b = b[:len(b)-2]
		for range 1 + r.IntN(3) {
			i := r.IntN(len(b))
			switch r.IntN(4) {
			case 0:
				b = slices.Delete(b, i, i+1)
			case 1:
				b = slices.Insert(b, i, some[r.IntN(len(some))])
			default:
				b[i] = some[r.IntN(len(some))]
			}
		}
		decodeAsDefined(t, sealed(b...))
	}
}

// Writing into a result changes no other one and no argument (R2).
func TestP6_3NewMemory(t *testing.T) {
	l := wagons()
	first, _ := consist.Encode(l)
	second, _ := consist.Encode(l)
	clear(first[:cap(first)])
	if !slices.Equal(l, wagons()) || !bytes.Equal(second, message(wagons())) {
		t.Errorf("after writing into the result of Encode: %+v and %v", l, second)
	}
	clear(l)
	if !bytes.Equal(second, message(wagons())) {
		t.Errorf("after writing into the argument of Encode: %v", second)
	}

	b := message(wagons())
	decoded, _ := consist.Decode(b)
	other, _ := consist.Decode(b)
	clear(decoded[:cap(decoded)])
	if !bytes.Equal(b, message(wagons())) || !slices.Equal(other, wagons()) {
		t.Errorf("after writing into the result of Decode: %v and %+v", b, other)
	}
	clear(b)
	if !slices.Equal(other, wagons()) {
		t.Errorf("after writing into the bytes of Decode: %+v", other)
	}
}
