package hamming_test

import (
	"bytes"
	"slices"
	"testing"

	"humpyard/api"
	"humpyard/hamming"
)

// encode returns the code word of a value, which must exist.
func encode(t *testing.T, v int) int {
	t.Helper()
	w, e := hamming.Encode(v)
	if e != api.OK {
		t.Fatalf("Encode(%d): error %d", v, e)
	}
	return w
}

// P3.1

func TestP3_1Encode(t *testing.T) {
	for _, c := range []struct{ v, want int }{
		{0, 0},
		{1, 15},
		{2, 0x33},   // 5 = 4 + 1
		{4, 0x55},   // 6 = 4 + 2
		{8, 0x96},   // 7 = 4 + 2 + 1: with the three, an even number
		{16, 0x303}, // 9 = 8 + 1
		{32, 0x505}, // 10 = 8 + 2
		{64, 0x906}, // 11 = 8 + 2 + 1
		{128, 0x1111},
		{256, 0x2112},
		{512, 0x4114},
		{1024, 0x8117},
		{3, 0x3c},
		{2047, 65535},
		{2046, 65520},
	} {
		if got, e := hamming.Encode(c.v); got != c.want || e != api.OK {
			t.Errorf("Encode(%d) = %#x, error %d; want %#x", c.v, got, e, c.want)
		}
	}
}

func TestP3_1EncodeDefinition(t *testing.T) {
	for v, code := range codeWords() {
		if len(code) != 1 {
			t.Fatalf("the code words of %d are %v: there must be one", v, code)
		}
		if got, e := hamming.Encode(v); got != code[0] || e != api.OK {
			t.Errorf("Encode(%d) = %#x, error %d; want %#x", v, got, e, code[0])
		}
	}
}

func TestP3_1EncodeErrors(t *testing.T) {
	for _, v := range noValues() {
		if got, e := hamming.Encode(v); got != 0 || e != api.ErrRange {
			t.Errorf("Encode(%d) = %d, error %d; want ErrRange", v, got, e)
		}
	}
}

// P3.2

func TestP3_2Decode(t *testing.T) {
	for _, c := range []struct {
		w    int
		want decoded
	}{
		{0, decoded{0, -1, api.OK}},
		{15, decoded{1, -1, api.OK}},
		{65535, decoded{2047, -1, api.OK}},
		// one wrong bit: bit 0, a bit of the syndrome, a data bit
		{14, decoded{1, 0, api.OK}},
		{13, decoded{1, 1, api.OK}},
		{11, decoded{1, 2, api.OK}},
		{7, decoded{1, 3, api.OK}},
		{31, decoded{1, 4, api.OK}},
		{1, decoded{0, 0, api.OK}},
		{2, decoded{0, 1, api.OK}},
		{1 << 8, decoded{0, 8, api.OK}},
		{1 << 15, decoded{0, 15, api.OK}},
		{65534, decoded{2047, 0, api.OK}},
		{32767, decoded{2047, 15, api.OK}},
		// two wrong bits
		{12, decoded{e: api.ErrChecksum}},
		{3, decoded{e: api.ErrChecksum}},
		{1<<15 | 1, decoded{e: api.ErrChecksum}},
		{1<<15 | 1<<14, decoded{e: api.ErrChecksum}},
		{65535 - 3, decoded{e: api.ErrChecksum}},
		{-1, decoded{e: api.ErrRange}},
		{65536, decoded{e: api.ErrRange}},
	} {
		sameDecode(t, c.w, c.want)
	}
}

func sameDecode(t *testing.T, w int, want decoded) {
	t.Helper()
	v, bit, e := hamming.Decode(w)
	if got := (decoded{v, bit, e}); got != want {
		t.Errorf("Decode(%#x) = %d, bit %d, error %d; want %d, bit %d, error %d", w, v, bit, e, want.v, want.bit, want.e)
	}
}

func TestP3_2DecodeDefinition(t *testing.T) {
	for w := range words {
		sameDecode(t, w, decode(w))
	}
}

func TestP3_2DecodeErrors(t *testing.T) {
	for _, w := range noWords() {
		sameDecode(t, w, decoded{e: api.ErrRange})
	}
}

// Each code word is read with no bit and with one bit changed, and refused with two.
func TestP3_2DecodeChangedBits(t *testing.T) {
	for v := range 2048 {
		w := encode(t, v)
		sameDecode(t, w, decoded{v: v, bit: -1})
		for a := range 16 {
			sameDecode(t, w^1<<a, decoded{v: v, bit: a})
			for b := range a {
				sameDecode(t, w^1<<a^1<<b, decoded{e: api.ErrChecksum})
			}
		}
	}
}

// P3.3

func sameDistance(t *testing.T, a, b, want int, wantE api.Errno) {
	t.Helper()
	if got, e := hamming.Distance(a, b); got != want || e != wantE {
		t.Errorf("Distance(%#x, %#x) = %d, error %d; want %d, error %d", a, b, got, e, want, wantE)
	}
}

func TestP3_3Distance(t *testing.T) {
	for _, c := range []struct{ a, b, want int }{
		{0, 0, 0}, {65535, 65535, 0}, {0, 65535, 16}, {65535, 0, 16}, {5, 6, 2}, {12, 15, 2}, {12, 0, 2},
		{0, 1, 1}, {0, 1 << 15, 1}, {1, 1 << 15, 2}, {65535, 1, 15}, {65535, 32767, 1}, {0x5555, 0xaaaa, 16}, {0x00ff, 0x0ff0, 8}, {255, 256, 9},
	} {
		sameDistance(t, c.a, c.b, c.want, api.OK)
	}
}

func TestP3_3DistanceDefinition(t *testing.T) {
	r := random(3)
	for a := range words {
		sameDistance(t, a, 0, distance(a, 0), api.OK)
		sameDistance(t, 65535, a, distance(65535, a), api.OK)
		b := r.IntN(words)
		sameDistance(t, a, b, distance(a, b), api.OK)
	}
}

func TestP3_3DistanceErrors(t *testing.T) {
	for _, n := range noWords() {
		for _, w := range []int{0, 15, 65535} {
			sameDistance(t, n, w, 0, api.ErrRange)
			sameDistance(t, w, n, 0, api.ErrRange)
		}
		for _, m := range noWords() {
			sameDistance(t, n, m, 0, api.ErrRange)
		}
	}
}

// The first consequence: two different code words differ in at least four bits.
func TestP3_3DistanceOfCodeWords(t *testing.T) {
	var code [2048]int
	for v := range code {
		code[v] = encode(t, v)
		for u, w := range code[:v] {
			if n, e := hamming.Distance(w, code[v]); n < 4 || e != api.OK {
				t.Fatalf("Distance of the code words of %d and %d = %d, error %d", u, v, n, e)
			}
		}
	}
}

// P3.4

func samePack(t *testing.T, l []int) {
	t.Helper()
	before := slices.Clone(l)
	got, e := hamming.Pack(l)
	if want, wantE := pack(l); !bytes.Equal(got, want) || e != wantE {
		t.Errorf("Pack of %d values: %d bytes, error %d; want %d bytes, error %d, or the bytes differ", len(l), len(got), e, len(want), wantE)
	}
	if !slices.Equal(l, before) {
		t.Errorf("Pack has changed its list of %d values", len(l))
	}
}

func TestP3_4Pack(t *testing.T) {
	for _, c := range []struct {
		l    []int
		want []byte
	}{
		{nil, nil},
		{[]int{}, nil},
		{[]int{0}, []byte{0, 0}},
		{[]int{1}, []byte{0, 15}},
		{[]int{16}, []byte{3, 3}},
		{[]int{64}, []byte{9, 6}},
		{[]int{1, 0, 2047}, []byte{0, 15, 0, 0, 255, 255}},
		{[]int{1024, 1024, 1}, []byte{0x81, 0x17, 0x81, 0x17, 0, 15}},
	} {
		if got, e := hamming.Pack(c.l); !bytes.Equal(got, c.want) || e != api.OK {
			t.Errorf("Pack(%v) = %v, error %d; want %v", c.l, got, e, c.want)
		}
	}
	samePack(t, allValues())
	r := random(4)
	for n := range 100 {
		l := make([]int, n)
		for i := range l {
			l[i] = r.IntN(2048)
		}
		samePack(t, l)
	}
}

func allValues() []int {
	l := make([]int, 2048)
	for v := range l {
		l[v] = v
	}
	return l
}

func TestP3_4PackErrors(t *testing.T) {
	for _, v := range noValues() {
		for _, l := range [][]int{{v}, {v, 0}, {0, v}, {1, 2, v, 3}, {v, v}} {
			if got, e := hamming.Pack(l); len(got) != 0 || e != api.ErrRange {
				t.Errorf("Pack(%v) = %v, error %d; want ErrRange", l, got, e)
			}
		}
	}
}

// Just at and just above the limit: a value that is wrong counts only where the list is not too long.
func TestP3_4PackLimit(t *testing.T) {
	for _, n := range []int{65535, 65536, 65537, 65538, 131072, 200000} {
		l := make([]int, n)
		for i := range l {
			l[i] = i % 2048
		}
		samePack(t, l)
		for _, place := range []int{0, n / 2, n - 1} {
			for _, v := range []int{-1, 2048} {
				spoilt := slices.Clone(l)
				spoilt[place] = v
				samePack(t, spoilt)
			}
		}
	}
	if got, e := hamming.Pack(make([]int, 65536)); len(got) != 131072 || e != api.OK {
		t.Errorf("Pack of 65536 values: %d bytes, error %d", len(got), e)
	}
	if got, e := hamming.Pack(make([]int, 65537)); len(got) != 0 || e != api.ErrLimit {
		t.Errorf("Pack of 65537 values: %d bytes, error %d; want ErrLimit", len(got), e)
	}
}

func sameUnpack(t *testing.T, b []byte) {
	t.Helper()
	before := bytes.Clone(b)
	got, lost, e := hamming.Unpack(b)
	want, wantLost, wantE := unpack(b)
	if !slices.Equal(got, want) || !slices.Equal(lost, wantLost) || e != wantE {
		t.Errorf("Unpack of %d bytes: %d values, %d lost, error %d; want %d values, %d lost, error %d, or the values differ", len(b), len(got), len(lost), e, len(want), len(wantLost), wantE)
	}
	if !bytes.Equal(b, before) {
		t.Errorf("Unpack has changed its %d bytes", len(b))
	}
	for i := 1; i < len(lost); i++ {
		if lost[i-1] >= lost[i] {
			t.Fatalf("Unpack of %d bytes: the indexes %d and %d are not ascending", len(b), lost[i-1], lost[i])
		}
	}
}

func TestP3_4Unpack(t *testing.T) {
	for _, c := range []struct {
		b       []byte
		l, lost []int
	}{
		{nil, nil, nil},
		{[]byte{}, nil, nil},
		{[]byte{0, 0}, []int{0}, nil},
		{[]byte{0, 15}, []int{1}, nil},
		{[]byte{0, 14}, []int{1}, nil},
		{[]byte{0, 12}, []int{-1}, []int{0}},
		{[]byte{15, 0}, []int{112}, nil},
		{[]byte{12, 0}, []int{-1}, []int{0}},
		{[]byte{3, 3}, []int{16}, nil},
		{[]byte{9, 6}, []int{64}, nil},
		{[]byte{128, 0}, []int{0}, nil},
		{[]byte{127, 255}, []int{2047}, nil},
		{[]byte{0, 14, 0, 12, 255, 255}, []int{1, -1, 2047}, []int{1}},
		{[]byte{0, 12, 0, 15, 0, 3, 128, 1, 0, 0, 12, 0}, []int{-1, 1, -1, -1, 0, -1}, []int{0, 2, 3, 5}},
	} {
		got, lost, e := hamming.Unpack(c.b)
		if !slices.Equal(got, c.l) || !slices.Equal(lost, c.lost) || e != api.OK {
			t.Errorf("Unpack(%v) = %v, lost %v, error %d; want %v, lost %v", c.b, got, lost, e, c.l, c.lost)
		}
	}
}

// All words, which are just as many as Unpack takes, in several orders.
func TestP3_4UnpackAllWords(t *testing.T) {
	for _, factor := range []int{1, -1, 257, 40503} {
		var b []byte
		for i := range words {
			w := i * factor
			b = append(b, byte(w>>8), byte(w))
		}
		sameUnpack(t, b)
	}
}

func TestP3_4UnpackBytes(t *testing.T) {
	r := random(5)
	for n := range 500 {
		b := make([]byte, n)
		for i := range b {
			b[i] = byte(r.IntN(256))
		}
		sameUnpack(t, b)
	}
}

// An odd number of bytes counts only where there are not too many.
func TestP3_4UnpackErrors(t *testing.T) {
	for _, c := range []struct {
		n int
		e api.Errno
	}{
		{1, api.ErrTruncated}, {3, api.ErrTruncated}, {65537, api.ErrTruncated}, {131069, api.ErrTruncated}, {131071, api.ErrTruncated},
		{131073, api.ErrLimit}, {131074, api.ErrLimit}, {131075, api.ErrLimit}, {262144, api.ErrLimit}, {262145, api.ErrLimit},
	} {
		for _, fill := range []byte{0, 255, 12} {
			b := bytes.Repeat([]byte{fill}, c.n)
			got, lost, e := hamming.Unpack(b)
			if len(got) != 0 || len(lost) != 0 || e != c.e {
				t.Errorf("Unpack of %d bytes %d: %d values, %d lost, error %d; want error %d", c.n, fill, len(got), len(lost), e, c.e)
			}
			sameUnpack(t, b)
		}
	}
	for _, n := range []int{131070, 131072} {
		got, lost, e := hamming.Unpack(make([]byte, n))
		if len(got) != n/2 || len(lost) != 0 || e != api.OK {
			t.Errorf("Unpack of %d bytes: %d values, %d lost, error %d", n, len(got), len(lost), e)
		}
		got, lost, e = hamming.Unpack(bytes.Repeat([]byte{0, 12}, n/2))
		if len(got) != n/2 || len(lost) != n/2 || e != api.OK {
			t.Errorf("Unpack of %d bytes that are lost: %d values, %d lost, error %d", n, len(got), len(lost), e)
		}
	}
}

// The second consequence: a wrong bit in each word changes nothing, and two in one word cost this word only.
func TestP3_4UnpackOfPack(t *testing.T) {
	l := allValues()
	packed, e := hamming.Pack(l)
	if e != api.OK {
		t.Fatalf("Pack: error %d", e)
	}
	for a := range 16 {
		b := bytes.Clone(packed)
		for i := range l {
			flip(b, i, (a+i)%16)
		}
		if got, lost, e := hamming.Unpack(b); !slices.Equal(got, l) || len(lost) != 0 || e != api.OK {
			t.Errorf("Unpack with a wrong bit in each word: lost %v, error %d, or the values differ", lost, e)
		}
		for i := a; i < len(l); i += 97 {
			spoilt := bytes.Clone(b)
			flip(spoilt, i, (a+i+1+i%15)%16)
			want := slices.Clone(l)
			want[i] = -1
			if got, lost, e := hamming.Unpack(spoilt); !slices.Equal(got, want) || !slices.Equal(lost, []int{i}) || e != api.OK {
				t.Fatalf("Unpack with two wrong bits in the word %d: lost %v, error %d, or the values differ", i, lost, e)
			}
		}
	}
}

// flip changes the bit p of the word with the index i.
func flip(b []byte, i, p int) {
	if p >= 8 {
		b[2*i] ^= 1 << (p - 8)
	} else {
		b[2*i+1] ^= 1 << p
	}
}

// Writing into a result changes no other one and no argument (R2).
func TestP3_4NewMemory(t *testing.T) {
	l := []int{1, 2, 3, 2047}
	b, _ := hamming.Pack(l)
	other, _ := hamming.Pack(l)
	clear(b[:cap(b)])
	if want, _ := pack(l); !bytes.Equal(other, want) || !slices.Equal(l, []int{1, 2, 3, 2047}) {
		t.Errorf("after writing into the result of Pack: %v and %v", other, l)
	}

	b = []byte{0, 12, 0, 15, 0, 3, 0, 0, 0, 5}
	before := bytes.Clone(b)
	values, lost, _ := hamming.Unpack(b)
	otherValues, otherLost, _ := hamming.Unpack(b)
	fill(values)
	if !slices.Equal(lost, []int{0, 2, 4}) {
		t.Errorf("after writing into the values of Unpack: lost %v", lost)
	}
	fill(lost)
	if !slices.Equal(otherValues, []int{-1, 1, -1, 0, -1}) || !slices.Equal(otherLost, []int{0, 2, 4}) || !bytes.Equal(b, before) {
		t.Errorf("after writing into the results of Unpack: %v, %v and %v", otherValues, otherLost, b)
	}
	if slices.ContainsFunc(values, func(v int) bool { return v != 99 }) {
		t.Errorf("after writing into the indexes of Unpack: the values are %v", values)
	}
}

func fill(l []int) {
	l = l[:cap(l)]
	for i := range l {
		l[i] = 99
	}
}
