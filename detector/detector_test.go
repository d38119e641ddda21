package detector_test

import (
	"bytes"
	"slices"
	"testing"

	"humpyard/api"
	"humpyard/detector"
	"humpyard/hamming"
)

// pack returns the bytes of values, which must have code words.
func pack(t *testing.T, values []int) []byte {
	t.Helper()
	b, e := hamming.Pack(values)
	if e != api.OK {
		t.Fatalf("Pack(%v): error %d", values, e)
	}
	return b
}

// packLost is pack, but two bits of each value that is -1 are wrong.
func packLost(t *testing.T, values []int) []byte {
	t.Helper()
	known := slices.Clone(values)
	for i, v := range values {
		if v == -1 {
			known[i] = 1024
		}
	}
	b := pack(t, known)
	for i, v := range values {
		if v == -1 {
			flip(b, i, i%16)
			flip(b, i, (i+1+i%15)%16)
		}
	}
	return b
}

// flip changes the bit p of the word with the index i.
func flip(b []byte, i, p int) {
	if p >= 8 {
		b[2*i] ^= 1 << (p - 8)
	} else {
		b[2*i+1] ^= 1 << p
	}
}

// unpack returns the values of a message, which are all there.
func unpack(t *testing.T, b []byte) []int {
	t.Helper()
	values, lost, e := hamming.Unpack(b)
	if len(lost) > 0 || e != api.OK {
		t.Fatalf("Unpack: lost %v, error %d", lost, e)
	}
	return values
}

// sameAt returns n pulses of the detector 3 at one time.
func sameAt(n, time int) []api.Pulse {
	return slices.Repeat([]api.Pulse{{Detector: 3, Time: time, Direction: -1}}, n)
}

// far returns n pulses, each of which needs a group of its own.
func far(n int) []api.Pulse {
	l := make([]api.Pulse, n)
	for i := range l {
		l[i] = api.Pulse{Detector: i % 32, Time: maxTime - 244000*(n-1-i), Direction: 1 - i%2*2}
	}
	return l
}

// P4.1

func sameValid(t *testing.T, l []api.Pulse, want api.Errno) {
	t.Helper()
	before := slices.Clone(l)
	if e := detector.Valid(l); e != want {
		t.Errorf("Valid of %d pulses, %v: error %d, want %d", len(l), l[:min(len(l), 9)], e, want)
	}
	if !slices.Equal(l, before) {
		t.Errorf("Valid has changed its list of %d pulses", len(l))
	}
}

func TestP4_1Valid(t *testing.T) {
	for _, c := range []struct {
		l    []api.Pulse
		want api.Errno
	}{
		{nil, api.OK},
		{[]api.Pulse{}, api.OK},
		{[]api.Pulse{{Detector: 2, Time: 5, Direction: 1}}, api.OK},
		{[]api.Pulse{{Detector: 0, Time: 0, Direction: 1}}, api.OK},
		{[]api.Pulse{{Detector: 0, Time: 0, Direction: -1}}, api.OK},
		{[]api.Pulse{{Detector: 31, Time: api.MaxTime, Direction: -1}}, api.OK},
		{[]api.Pulse{{Detector: -1, Time: 5, Direction: 1}}, api.ErrInvalid},
		{[]api.Pulse{{Detector: 32, Time: 5, Direction: 1}}, api.ErrInvalid},
		{[]api.Pulse{{Detector: 2, Time: -1, Direction: 1}}, api.ErrInvalid},
		{[]api.Pulse{{Detector: 2, Time: api.MaxTime + 1, Direction: 1}}, api.ErrInvalid},
		{[]api.Pulse{{Detector: 2, Time: 5, Direction: 0}}, api.ErrInvalid},
		{[]api.Pulse{{Detector: 2, Time: 5, Direction: 2}}, api.ErrInvalid},
		{[]api.Pulse{{Detector: 2, Time: 5, Direction: -2}}, api.ErrInvalid},
		{[]api.Pulse{{}}, api.ErrInvalid},
		{sameAt(8, 0), api.OK},
		{sameAt(9, api.MaxTime), api.OK},
		{[]api.Pulse{{Detector: 2, Time: 5, Direction: 1}, {Detector: 2, Time: 4, Direction: 1}}, api.ErrOrder},
		{[]api.Pulse{{Detector: 2, Time: 5, Direction: 1}, {Detector: 2, Time: 5, Direction: 1}, {Detector: 2, Time: 4, Direction: 1}}, api.ErrOrder},
		{[]api.Pulse{{Detector: 2, Time: 1, Direction: 1}, {Detector: 2, Time: 0, Direction: 1}}, api.ErrOrder},
		{[]api.Pulse{{Detector: 2, Time: api.MaxTime, Direction: 1}, {Detector: 2, Time: 0, Direction: 1}}, api.ErrOrder},
		{[]api.Pulse{{Detector: 2, Time: 0, Direction: 1}, {Detector: 2, Time: api.MaxTime, Direction: 1}}, api.OK},
		{[]api.Pulse{{Detector: 2, Time: 9, Direction: 1}, {Detector: 2, Time: 4, Direction: 1}, {Detector: 2, Time: 5, Direction: 1}, {Detector: 2, Time: 9, Direction: 1}}, api.ErrOrder},
	} {
		sameValid(t, c.l, c.want)
	}
}

// The first pulse with an error counts, and in one pulse its ranges come before its order.
func TestP4_1ValidOrderOfErrors(t *testing.T) {
	good := api.Pulse{Detector: 1, Time: 5, Direction: 1}
	early := api.Pulse{Detector: 1, Time: 4, Direction: 1}
	wrong := []api.Pulse{{Detector: 32, Time: 9, Direction: 1}, {Detector: -1, Time: 4, Direction: 1}, {Detector: 1, Time: -1, Direction: 1}, {Detector: 1, Time: api.MaxTime + 1, Direction: 1}, {Detector: 1, Time: 4, Direction: 0}}
	for _, w := range wrong {
		sameValid(t, []api.Pulse{w}, api.ErrInvalid)
		sameValid(t, []api.Pulse{w, good}, api.ErrInvalid)
		sameValid(t, []api.Pulse{good, w}, api.ErrInvalid)
		sameValid(t, []api.Pulse{good, w, early}, api.ErrInvalid)
		sameValid(t, []api.Pulse{good, early, w}, api.ErrOrder)
		sameValid(t, []api.Pulse{w, good, early}, api.ErrInvalid)
	}
}

func TestP4_1ValidNumbers(t *testing.T) {
	good := api.Pulse{Detector: 7, Time: 1024, Direction: -1}
	for _, n := range numbers() {
		for _, p := range []api.Pulse{{Detector: n, Time: 1024, Direction: 1}, {Detector: 7, Time: n, Direction: 1}, {Detector: 7, Time: 1024, Direction: n}, {Detector: n, Time: n, Direction: n}} {
			for _, l := range [][]api.Pulse{{p}, {good, p}, {p, good}, {good, good, p, good}} {
				sameValid(t, l, valid(l))
			}
		}
	}
}

// All lists of up to three pulses with few values, right and wrong.
func TestP4_1ValidDefinition(t *testing.T) {
	var some []api.Pulse
	for _, d := range []int{-1, 0, 31, 32} {
		for _, time := range []int{-1, 0, 1, maxTime, maxTime + 1} {
			for _, direction := range []int{-1, 0, 1, 2} {
				some = append(some, api.Pulse{Detector: d, Time: time, Direction: direction})
			}
		}
	}
	for _, a := range some {
		for _, b := range some {
			l := []api.Pulse{a, b}
			sameValid(t, l, valid(l))
			for _, c := range some {
				l := []api.Pulse{a, b, c}
				if e := detector.Valid(l); e != valid(l) {
					t.Fatalf("Valid(%v): error %d, want %d", l, e, valid(l))
				}
			}
		}
	}
}

func TestP4_1ValidLimit(t *testing.T) {
	for _, n := range []int{api.MaxPulses - 1, api.MaxPulses} {
		sameValid(t, sameAt(n, 5), api.OK)
		sameValid(t, far(n), api.OK)
		for _, i := range []int{0, n / 2, n - 1} {
			l := sameAt(n, 5)
			l[i].Direction = 0
			sameValid(t, l, api.ErrInvalid)
		}
		l := sameAt(n, 5)
		l[n-1].Time = 4
		sameValid(t, l, api.ErrOrder)
	}
	for _, n := range []int{api.MaxPulses + 1, api.MaxPulses + 2, 2 * api.MaxPulses, 100000} {
		sameValid(t, sameAt(n, 5), api.ErrLimit)
		sameValid(t, make([]api.Pulse, n), api.ErrLimit)
		l := sameAt(n, 5)
		l[1].Time = 4
		sameValid(t, l, api.ErrLimit)
	}
}

// P4.2

func sameEncode(t *testing.T, l []api.Pulse, want []int) {
	t.Helper()
	before := slices.Clone(l)
	b, e := detector.Encode(l)
	if !bytes.Equal(b, pack(t, want)) || e != api.OK {
		values, _, _ := hamming.Unpack(b)
		t.Errorf("Encode of %d pulses, %v: %d bytes, the values %v, error %d; want the values %v", len(l), l[:min(len(l), 9)], len(b), values[:min(len(values), 30)], e, want[:min(len(want), 30)])
	}
	if !slices.Equal(l, before) {
		t.Errorf("Encode has changed its list of %d pulses", len(l))
	}
}

func TestP4_2Encode(t *testing.T) {
	for _, c := range []struct {
		l    []api.Pulse
		want []int
	}{
		{nil, nil},
		{[]api.Pulse{}, nil},
		{[]api.Pulse{{Detector: 2, Time: 5, Direction: 1}}, []int{1537, 0, 0, 5, 1029, 0}},
		{[]api.Pulse{{Detector: 2, Time: 5, Direction: -1}}, []int{1537, 0, 0, 5, 1028, 0}},
		{[]api.Pulse{{Detector: 0, Time: 0, Direction: -1}}, []int{1537, 0, 0, 0, 1024, 0}},
		{[]api.Pulse{{Detector: 31, Time: api.MaxTime, Direction: 1}}, []int{1537, 953, 690, 512, 1087, 0}},
		// the values of the base at their limits
		{[]api.Pulse{{Detector: 1, Time: 1023, Direction: 1}}, []int{1537, 0, 0, 1023, 1027, 0}},
		{[]api.Pulse{{Detector: 1, Time: 1024, Direction: 1}}, []int{1537, 0, 1, 0, 1027, 0}},
		{[]api.Pulse{{Detector: 1, Time: 1<<20 - 1, Direction: 1}}, []int{1537, 0, 1023, 1023, 1027, 0}},
		{[]api.Pulse{{Detector: 1, Time: 1 << 20, Direction: 1}}, []int{1537, 1, 0, 0, 1027, 0}},
		{[]api.Pulse{{Detector: 1, Time: 1<<20 + 1<<11 + 3, Direction: 1}}, []int{1537, 1, 2, 3, 1027, 0}},
		{[]api.Pulse{{Detector: 1, Time: 953<<20 - 1, Direction: 1}}, []int{1537, 952, 1023, 1023, 1027, 0}},
		// differences
		{[]api.Pulse{{Detector: 4, Time: 7, Direction: 1}, {Detector: 5, Time: 7, Direction: -1}}, []int{1538, 0, 0, 7, 1033, 0, 1034, 0}},
		{[]api.Pulse{{Detector: 4, Time: 7, Direction: 1}, {Detector: 5, Time: 1030, Direction: -1}}, []int{1538, 0, 0, 7, 1033, 0, 1034, 1023}},
		{[]api.Pulse{{Detector: 4, Time: 7, Direction: 1}, {Detector: 5, Time: 1031, Direction: -1}}, []int{1537, 0, 0, 7, 1033, 0, 1537, 0, 1, 7, 1034, 0}},
		// a difference is that to the pulse before, and not that to the base
		{[]api.Pulse{{Detector: 4, Time: 0, Direction: 1}, {Detector: 4, Time: 1000, Direction: 1}, {Detector: 4, Time: 2001, Direction: 1}, {Detector: 4, Time: 3026, Direction: 1}},
			[]int{1539, 0, 0, 0, 1033, 0, 1033, 1000, 1033, 1001, 1537, 0, 2, 978, 1033, 0}},
	} {
		sameEncode(t, c.l, c.want)
	}
}

// The bytes of the first example, without package hamming: its six words and no more.
func TestP4_2EncodeBytes(t *testing.T) {
	b, e := detector.Encode([]api.Pulse{{Detector: 2, Time: 5, Direction: 1}})
	if e != api.OK || len(b) != 12 || !bytes.Equal(b[2:6], []byte{0, 0, 0, 0}) || !bytes.Equal(b[6:8], []byte{0, 15 ^ 0x55}) || !bytes.Equal(b[10:], []byte{0, 0}) {
		t.Errorf("Encode = %v, error %d", b, e)
	}
}

func TestP4_2EncodeGroupsOfEight(t *testing.T) {
	eight := append([]int{1544, 0, 0, 7}, slices.Repeat([]int{1030, 0}, 8)...)
	sameEncode(t, sameAt(7, 7), append([]int{1543, 0, 0, 7}, slices.Repeat([]int{1030, 0}, 7)...))
	sameEncode(t, sameAt(8, 7), eight)
	sameEncode(t, sameAt(9, 7), append(slices.Clone(eight), 1537, 0, 0, 7, 1030, 0))
	sameEncode(t, sameAt(16, 7), slices.Repeat(eight, 2))
	sameEncode(t, sameAt(17, 7), append(slices.Repeat(eight, 2), 1537, 0, 0, 7, 1030, 0))
}

func TestP4_2EncodeDefinition(t *testing.T) {
	r := random(1)
	for n := range 300 {
		l := randomList(r, n)
		sameEncode(t, l, messageValues(l))
	}
	for _, n := range []int{api.MaxPulses - 1, api.MaxPulses} {
		for _, l := range [][]api.Pulse{sameAt(n, 0), sameAt(n, maxTime), far(n), randomList(r, n)} {
			sameEncode(t, l, messageValues(l))
		}
	}
}

// All detectors and directions, in one group and each alone.
func TestP4_2EncodePulses(t *testing.T) {
	for d := range 32 {
		for _, direction := range []int{-1, 1} {
			p := api.Pulse{Detector: d, Time: 2000000 + d, Direction: direction}
			q := api.Pulse{Detector: 31 - d, Time: 2000033, Direction: -direction}
			sameEncode(t, []api.Pulse{p}, messageValues([]api.Pulse{p}))
			sameEncode(t, []api.Pulse{p, q, q}, messageValues([]api.Pulse{p, q, q}))
		}
	}
}

func TestP4_2EncodeErrors(t *testing.T) {
	good := api.Pulse{Detector: 1, Time: 5, Direction: 1}
	early := api.Pulse{Detector: 1, Time: 4, Direction: 1}
	wrong := api.Pulse{Detector: 32, Time: 9, Direction: 1}
	long := sameAt(api.MaxPulses+1, 5)
	for _, c := range []struct {
		l    []api.Pulse
		want api.Errno
	}{
		{[]api.Pulse{wrong}, api.ErrInvalid},
		{[]api.Pulse{good, wrong}, api.ErrInvalid},
		{[]api.Pulse{good, early}, api.ErrOrder},
		{[]api.Pulse{good, early, wrong}, api.ErrOrder},
		{[]api.Pulse{good, wrong, early}, api.ErrInvalid},
		{append(sameAt(20, 5), early), api.ErrOrder},
		{long, api.ErrLimit},
		{append([]api.Pulse{wrong}, long...), api.ErrLimit},
		{make([]api.Pulse, 100000), api.ErrLimit},
	} {
		before := slices.Clone(c.l)
		if b, e := detector.Encode(c.l); len(b) != 0 || e != c.want {
			t.Errorf("Encode of %d pulses: %d bytes, error %d; want error %d", len(c.l), len(b), e, c.want)
		}
		if !slices.Equal(c.l, before) {
			t.Errorf("Encode has changed its list of %d pulses", len(c.l))
		}
	}
	for _, n := range numbers() {
		for _, p := range []api.Pulse{{Detector: n, Time: 5, Direction: 1}, {Detector: 1, Time: n, Direction: 1}, {Detector: 1, Time: 5, Direction: n}} {
			l := []api.Pulse{good, p}
			if b, e := detector.Encode(l); e != valid(l) || (len(b) == 0) != (e != api.OK) {
				t.Errorf("Encode(%v): %d bytes, error %d; want error %d", l, len(b), e, valid(l))
			}
		}
	}
}

// P4.3

// sameDecode looks at what Decode returns for some bytes, and that it does not change them.
func sameDecode(t *testing.T, b []byte, pulses []api.Pulse, gaps []api.Interval, want api.Errno) {
	t.Helper()
	before := bytes.Clone(b)
	p, g, e := detector.Decode(b)
	if !slices.Equal(p, pulses) || !slices.Equal(g, gaps) || e != want {
		t.Errorf("Decode of %d bytes: %d pulses, %v, the gaps %v, error %d; want %d pulses, %v, the gaps %v, error %d",
			len(b), len(p), p[:min(len(p), 20)], g[:min(len(g), 20)], e, len(pulses), pulses[:min(len(pulses), 20)], gaps[:min(len(gaps), 20)], want)
	}
	if !bytes.Equal(b, before) {
		t.Errorf("Decode has changed its %d bytes", len(b))
	}
}

// sameValues compares Decode with the definition, for a message with these values.
func sameValues(t *testing.T, values []int) {
	t.Helper()
	pulses, gaps, e := read(values)
	sameDecode(t, packLost(t, values), pulses, gaps, e)
	if t.Failed() {
		t.Fatalf("the values are %v", values[:min(len(values), 40)])
	}
}

func TestP4_3Decode(t *testing.T) {
	p := api.Pulse{Detector: 2, Time: 5, Direction: 1}
	pair := []api.Pulse{{Detector: 31, Time: 1 << 20, Direction: -1}, {Detector: 0, Time: 1<<20 + 1023, Direction: 1}}
	last := api.Pulse{Detector: 0, Time: api.MaxTime, Direction: -1}
	for _, c := range []struct {
		values []int
		pulses []api.Pulse
		gaps   []api.Interval
	}{
		{nil, nil, nil},
		{[]int{}, nil, nil},
		{[]int{1537, 0, 0, 5, 1029, 0}, []api.Pulse{p}, nil},
		{[]int{1537, 0, 0, 0, 1029, 5}, []api.Pulse{p}, nil},
		{[]int{1538, 1, 0, 0, 1086, 0, 1025, 1023}, pair, nil},
		{[]int{1538, 0, 1023, 1023, 1086, 1, 1025, 1023}, pair, nil},
		{[]int{1537, 953, 690, 512, 1024, 0}, []api.Pulse{last}, nil},
		{[]int{1537, 953, 690, 0, 1024, 512}, []api.Pulse{last}, nil},
		{[]int{1537, 953, 689, 1023, 1024, 513}, []api.Pulse{last}, nil},
		// the second word is lost, and the others
		{[]int{1537, -1, 0, 5, 1029, 0}, nil, []api.Interval{{Lo: 0, Hi: 5}}},
		{[]int{-1, 0, 0, 5, 1029, 0}, nil, []api.Interval{{Lo: 0, Hi: 5}}},
		{[]int{1537, 0, -1, 5, 1029, 0}, nil, []api.Interval{{Lo: 0, Hi: 5}}},
		{[]int{1537, 0, 0, -1, 1029, 0}, nil, []api.Interval{{Lo: 0, Hi: 5}}},
		{[]int{1537, 0, 0, 5, -1, 0}, nil, []api.Interval{{Lo: 0, Hi: 5}}},
		{[]int{1537, 0, 0, 5, 1029, -1}, nil, []api.Interval{{Lo: 0, Hi: 5}}},
		{[]int{-1}, nil, []api.Interval{{Lo: 0, Hi: 0}}},
		// marks that are not in place
		{[]int{1536}, nil, []api.Interval{{Lo: 0, Hi: 0}}},
		{[]int{1536, 0, 0, 5}, nil, []api.Interval{{Lo: 0, Hi: 3}}},
		{append([]int{1545, 0, 0, 5}, slices.Repeat([]int{1029, 0}, 9)...), nil, []api.Interval{{Lo: 0, Hi: 21}}},
		{[]int{0, 0}, nil, []api.Interval{{Lo: 0, Hi: 1}}},
		{[]int{2047, 0, 0, 5, 1029, 0}, nil, []api.Interval{{Lo: 0, Hi: 5}}},
		// values that are there, but not in place
		{[]int{1537, 1024, 0, 5, 1029, 0}, nil, []api.Interval{{Lo: 0, Hi: 5}}},
		{[]int{1537, 0, 1024, 5, 1029, 0}, nil, []api.Interval{{Lo: 0, Hi: 5}}},
		{[]int{1537, 0, 0, 1024, 1029, 0}, nil, []api.Interval{{Lo: 0, Hi: 5}}},
		{[]int{1537, 0, 0, 5, 1023, 0}, nil, []api.Interval{{Lo: 0, Hi: 5}}},
		{[]int{1537, 0, 0, 5, 1088, 0}, nil, []api.Interval{{Lo: 0, Hi: 5}}},
		{[]int{1537, 0, 0, 5, 1029, 1024}, nil, []api.Interval{{Lo: 0, Hi: 5}}},
		{[]int{1538, 0, 0, 5, 1029, 0, 1029, 1024}, nil, []api.Interval{{Lo: 0, Hi: 7}}},
		// times above the greatest one
		{[]int{1537, 1023, 1023, 1023, 1024, 0}, nil, []api.Interval{{Lo: 0, Hi: 5}}},
		{[]int{1537, 1023, 1023, 1023, 1024, 1023}, nil, []api.Interval{{Lo: 0, Hi: 5}}},
		{[]int{1537, 953, 690, 513, 1024, 0}, nil, []api.Interval{{Lo: 0, Hi: 5}}},
		{[]int{1537, 953, 690, 512, 1024, 1}, nil, []api.Interval{{Lo: 0, Hi: 5}}},
		{[]int{1538, 953, 690, 512, 1024, 0, 1024, 1}, nil, []api.Interval{{Lo: 0, Hi: 7}}},
		{[]int{1538, 953, 690, 512, 1024, 1, 1024, 0}, nil, []api.Interval{{Lo: 0, Hi: 7}}},
	} {
		sameDecode(t, packLost(t, c.values), c.pulses, c.gaps, api.OK)
	}
}

// Where reading goes on behind a value that is passed over, and where each gap ends.
func TestP4_3DecodeGaps(t *testing.T) {
	p := api.Pulse{Detector: 2, Time: 5, Direction: 1}
	one := []int{1537, 0, 0, 5, 1029, 0}
	join := func(parts ...[]int) []int { return slices.Concat(parts...) }
	for _, c := range []struct {
		values []int
		pulses []api.Pulse
		gaps   []api.Interval
	}{
		{join([]int{7}, one), []api.Pulse{p}, []api.Interval{{Lo: 0, Hi: 0}}},
		{join([]int{7, -1, 1545, 1536, 2047}, one), []api.Pulse{p}, []api.Interval{{Lo: 0, Hi: 4}}},
		{join(one, []int{7}), []api.Pulse{p}, []api.Interval{{Lo: 6, Hi: 6}}},
		{join(one, []int{7, 8}, one), []api.Pulse{p, p}, []api.Interval{{Lo: 6, Hi: 7}}},
		{join([]int{7}, one, []int{7, 8}, one, []int{-1, -1, 7}), []api.Pulse{p, p}, []api.Interval{{Lo: 0, Hi: 0}, {Lo: 7, Hi: 8}, {Lo: 15, Hi: 17}}},
		// a mark whose group is not all there
		{join(one, []int{1537}), []api.Pulse{p}, []api.Interval{{Lo: 6, Hi: 6}}},
		{join(one, one[:5]), []api.Pulse{p}, []api.Interval{{Lo: 6, Hi: 10}}},
		{join([]int{1538}, one), []api.Pulse{p}, []api.Interval{{Lo: 0, Hi: 0}}},
		{join([]int{1537}, one), []api.Pulse{p}, []api.Interval{{Lo: 0, Hi: 0}}},
		{join(one[:3], one), []api.Pulse{p}, []api.Interval{{Lo: 0, Hi: 2}}},
		{join(one[:5], one), []api.Pulse{p}, []api.Interval{{Lo: 0, Hi: 4}}},
		// each mark in place begins a gap of its own
		{[]int{1537, 1537}, nil, []api.Interval{{Lo: 0, Hi: 0}, {Lo: 1, Hi: 1}}},
		{[]int{1537, 0, 1544, 1537, 1545, 1536}, nil, []api.Interval{{Lo: 0, Hi: 1}, {Lo: 2, Hi: 2}, {Lo: 3, Hi: 5}}},
		{join([]int{3, 1544, 1537, 4}, one), []api.Pulse{p}, []api.Interval{{Lo: 0, Hi: 0}, {Lo: 1, Hi: 1}, {Lo: 2, Hi: 3}}},
		{join(slices.Repeat([]int{1544}, 5), one), []api.Pulse{p}, []api.Interval{{Lo: 0, Hi: 0}, {Lo: 1, Hi: 1}, {Lo: 2, Hi: 2}, {Lo: 3, Hi: 3}, {Lo: 4, Hi: 4}}},
		// the mark of the next group is lost: its values belong to the gap, and the group before does not
		{join(one, []int{-1}, one[1:], one), []api.Pulse{p, p}, []api.Interval{{Lo: 6, Hi: 11}}},
		{join(one[:4], []int{-1, 0, -1}, one[1:], one), []api.Pulse{p}, []api.Interval{{Lo: 0, Hi: 11}}},
		{join(one[:4], []int{-1, 0}, one[:1], []int{-1}, one[2:], one), []api.Pulse{p}, []api.Interval{{Lo: 0, Hi: 5}, {Lo: 6, Hi: 11}}},
		// a group whose times are too late, before one that can be read
		{join([]int{1537, 953, 690, 513, 1024, 0}, one), []api.Pulse{p}, []api.Interval{{Lo: 0, Hi: 5}}},
		{join([]int{1538, 953, 690, 512, 1024, 0, 1024, 1}, one), []api.Pulse{p}, []api.Interval{{Lo: 0, Hi: 7}}},
		// a mark inside a group that is too long for its values
		{join([]int{1539, 0, 0, 1, 1024, 0}, one, []int{9}), []api.Pulse{p}, []api.Interval{{Lo: 0, Hi: 5}, {Lo: 12, Hi: 12}}},
		// a mark that is one too small leaves the last pulse over
		{join([]int{1537, 0, 0, 5, 1029, 0, 1029, 0}, one), []api.Pulse{p, p}, []api.Interval{{Lo: 6, Hi: 7}}},
	} {
		sameDecode(t, packLost(t, c.values), c.pulses, c.gaps, api.OK)
		sameValues(t, c.values)
	}
}

// Pulses come in the order of the message, also if their times go back.
func TestP4_3DecodeOrder(t *testing.T) {
	sameDecode(t, pack(t, []int{1537, 0, 0, 5, 1024, 9, 1537, 0, 0, 1, 1025, 0, 1537, 0, 0, 14, 1024, 0}),
		[]api.Pulse{{Detector: 0, Time: 14, Direction: -1}, {Detector: 0, Time: 1, Direction: 1}, {Detector: 0, Time: 14, Direction: -1}}, nil, api.OK)
	r := random(2)
	for n := range 40 {
		l, k := randomList(r, n), randomList(r, 40-n)
		values := slices.Concat(messageValues(l), messageValues(k), messageValues(l))
		sameDecode(t, pack(t, values), slices.Concat(l, k, l), nil, api.OK)
	}
}

// Each value of a group is replaced by each other one.
func TestP4_3DecodeReplaced(t *testing.T) {
	for _, l := range [][]int{
		{1537, 0, 0, 5, 1029, 0},
		{1537, 953, 690, 512, 1024, 0},
		{1538, 953, 690, 0, 1024, 256, 1087, 256, 1537, 1, 2, 3, 1050, 4},
	} {
		for i := range l {
			for v := -1; v < 2048; v++ {
				values := slices.Clone(l)
				values[i] = v
				sameValues(t, values)
			}
		}
	}
}

// Values at the limits of their ranges, in any order.
func TestP4_3DecodeDefinition(t *testing.T) {
	some := []int{-1, 0, 1, 953, 1022, 1023, 1024, 1025, 1086, 1087, 1088, 1535, 1536, 1537, 1537, 1537, 1538, 1538, 1543, 1544, 1545, 2047}
	r := random(3)
	for range 30000 {
		values := make([]int, r.IntN(30))
		for i := range values {
			values[i] = some[r.IntN(len(some))]
		}
		sameValues(t, values)
	}
}

// Messages in which a few values are replaced, left out or doubled.
func TestP4_3DecodeSpoilt(t *testing.T) {
	some := []int{-1, -1, -1, 0, 1023, 1024, 1087, 1088, 1536, 1537, 1538, 1544, 1545, 2047}
	r := random(4)
	for range 5000 {
		values := messageValues(randomList(r, 1+r.IntN(40)))
		for range r.IntN(6) {
			i := r.IntN(len(values))
			switch r.IntN(4) {
			case 0:
				values = slices.Delete(values, i, i+1)
			case 1:
				values = slices.Insert(values, i, some[r.IntN(len(some))])
			default:
				values[i] = some[r.IntN(len(some))]
			}
		}
		sameValues(t, values)
	}
}

func TestP4_3DecodeBytes(t *testing.T) {
	r := random(5)
	for n := range 2000 {
		b := make([]byte, n/2*2)
		for i := range b {
			b[i] = byte(r.IntN(256))
			if r.IntN(3) > 0 && i%2 == 1 {
				copy(b[i-1:], pack(t, []int{1536 + r.IntN(10)}))
			}
		}
		values, _, _ := hamming.Unpack(b)
		pulses, gaps, e := read(values)
		sameDecode(t, b, pulses, gaps, e)
	}
}

// A message that ends within a word is refused whole, and one that ends between two loses the group that is cut.
func TestP4_3DecodeCutOff(t *testing.T) {
	r := random(6)
	for _, l := range [][]api.Pulse{sameAt(1, 5), sameAt(9, 5), far(3), randomList(r, 30)} {
		b := packLost(t, messageValues(l))
		for n := range b {
			if n%2 == 1 {
				sameDecode(t, b[:n], nil, nil, api.ErrTruncated)
				continue
			}
			pulses, whole := 0, 0
			for _, g := range groups(l) {
				size := whole + 4 + 2*len(g)
				if size > n/2 {
					break
				}
				pulses += len(g)
				whole = size
			}
			var gaps []api.Interval
			if whole < n/2 {
				gaps = []api.Interval{{Lo: whole, Hi: n/2 - 1}}
			}
			sameDecode(t, b[:n], l[:pulses], gaps, api.OK)
		}
	}
}

// Without one word, the pulses of its group are lost, and no other ones.
func TestP4_3DecodeWordLeftOut(t *testing.T) {
	r := random(7)
	for range 20 {
		l := randomList(r, 1+r.IntN(40))
		values := messageValues(l)
		from, start := 0, 0
		for _, g := range groups(l) {
			size := 4 + 2*len(g)
			rest := slices.Concat(l[:from], l[from+len(g):])
			for i := range size {
				b := pack(t, slices.Delete(slices.Clone(values), start+i, start+i+1))
				sameDecode(t, b, rest, []api.Interval{{Lo: start, Hi: start + size - 2}}, api.OK)
			}
			from += len(g)
			start += size
		}
	}
}

// The consequences: a wrong bit in each word changes nothing, and two wrong bits in a word cost its group.
func TestP4_3DecodeOfEncode(t *testing.T) {
	r := random(8)
	for _, n := range []int{1, 2, 7, 8, 9, 16, 17, 60} {
		l := randomList(r, n)
		b, e := detector.Encode(l)
		if e != api.OK {
			t.Fatalf("Encode: error %d", e)
		}
		sameDecode(t, b, l, nil, api.OK)
		for bit := range 16 {
			spoilt := bytes.Clone(b)
			for i := range len(b) / 2 {
				flip(spoilt, i, (bit+i)%16)
			}
			sameDecode(t, spoilt, l, nil, api.OK)
			loseEachWord(t, spoilt, l, bit)
		}
	}
	for _, l := range [][]api.Pulse{nil, sameAt(api.MaxPulses, 9), far(api.MaxPulses), randomList(r, api.MaxPulses)} {
		b, e := detector.Encode(l)
		if e != api.OK {
			t.Fatalf("Encode of %d pulses: error %d", len(l), e)
		}
		sameDecode(t, b, l, nil, api.OK)
	}
}

// loseEachWord changes a second bit in one word at a time, where the bit that is wrong already is (bit + the index of the word) % 16.
func loseEachWord(t *testing.T, b []byte, l []api.Pulse, bit int) {
	t.Helper()
	from, start := 0, 0
	for _, g := range groups(l) {
		size := 4 + 2*len(g)
		rest := slices.Concat(l[:from], l[from+len(g):])
		for i := start; i < start+size; i++ {
			spoilt := bytes.Clone(b)
			flip(spoilt, i, (bit+i+1+i%15)%16)
			sameDecode(t, spoilt, rest, []api.Interval{{Lo: start, Hi: start + size - 1}}, api.OK)
		}
		from += len(g)
		start += size
	}
}

// Just one bit is wrong, in one word.
func TestP4_3DecodeOneBit(t *testing.T) {
	l := []api.Pulse{{Detector: 2, Time: 5, Direction: 1}, {Detector: 30, Time: 1028, Direction: -1}, {Detector: 0, Time: 900000000, Direction: 1}}
	b := pack(t, messageValues(l))
	for i := range len(b) / 2 {
		for p := range 16 {
			spoilt := bytes.Clone(b)
			flip(spoilt, i, p)
			sameDecode(t, spoilt, l, nil, api.OK)
		}
	}
}

func TestP4_3DecodeErrors(t *testing.T) {
	for _, c := range []struct {
		n int
		e api.Errno
	}{
		{1, api.ErrTruncated}, {3, api.ErrTruncated}, {11, api.ErrTruncated}, {13, api.ErrTruncated}, {131071, api.ErrTruncated},
		{131073, api.ErrLimit}, {131074, api.ErrLimit}, {131075, api.ErrLimit}, {300000, api.ErrLimit},
	} {
		one := pack(t, []int{1537, 0, 0, 5, 1029, 0})
		sameDecode(t, slices.Repeat(one, c.n/12+1)[:c.n], nil, nil, c.e)
		sameDecode(t, make([]byte, c.n), nil, nil, c.e)
		sameDecode(t, bytes.Repeat([]byte{12}, c.n), nil, nil, c.e)
	}
	sameDecode(t, make([]byte, 131072), nil, []api.Interval{{Lo: 0, Hi: 65535}}, api.OK)
}

// Just at and just above the greatest number of pulses, in small and in large groups.
func TestP4_3DecodeLimit(t *testing.T) {
	one := []int{1537, 0, 0, 5, 1029, 0}
	eight := append([]int{1544, 0, 0, 5}, slices.Repeat([]int{1029, 0}, 8)...)
	gap := []int{-1, 7, 1544}
	p := api.Pulse{Detector: 2, Time: 5, Direction: 1}
	most := slices.Repeat(eight, api.MaxPulses/8)
	all := slices.Repeat([]api.Pulse{p}, api.MaxPulses)
	behind := []api.Interval{{Lo: len(most), Hi: len(most) + 1}, {Lo: len(most) + 2, Hi: len(most) + 2}}

	sameDecode(t, pack(t, most), all, nil, api.OK)
	sameDecode(t, pack(t, most[:len(most)-len(eight)]), all[8:], nil, api.OK)
	sameDecode(t, pack(t, slices.Repeat(one, api.MaxPulses)), all, nil, api.OK)
	sameDecode(t, packLost(t, slices.Concat(most, gap)), all, behind, api.OK)
	sameDecode(t, packLost(t, slices.Concat(gap, most)), all, []api.Interval{{Lo: 0, Hi: 1}, {Lo: 2, Hi: 2}}, api.OK)
	sameDecode(t, pack(t, slices.Concat(most[len(eight):], slices.Repeat(one, 8))), all, nil, api.OK)

	for _, values := range [][]int{
		slices.Concat(most, one),
		slices.Concat(one, most),
		slices.Concat(most, eight),
		slices.Repeat(one, api.MaxPulses+1),
		slices.Repeat(eight, api.MaxPulses/8+1),
		slices.Repeat(eight, 3276),
		slices.Concat(gap, most, gap, one, gap),
		slices.Concat(most, one, gap),
		slices.Concat(most, gap, one),
	} {
		b := packLost(t, values)
		sameDecode(t, b, nil, nil, api.ErrLimit)
		sameDecode(t, append(b, 0), nil, nil, api.ErrTruncated)
	}
}

// Writing into a result changes no other one and no argument (R2).
func TestP4_3NewMemory(t *testing.T) {
	l := randomList(random(9), 20)
	kept := slices.Clone(l)
	b, _ := detector.Encode(l)
	other, _ := detector.Encode(l)
	clear(b[:cap(b)])
	if !slices.Equal(l, kept) || !bytes.Equal(other, pack(t, messageValues(kept))) {
		t.Errorf("after writing into the result of Encode: %v and %v", l, other)
	}

	values := slices.Concat([]int{7, 1538}, messageValues(kept), []int{-1})
	b = packLost(t, values)
	before := bytes.Clone(b)
	wantPulses, wantGaps, _ := read(values)
	pulses, gaps, _ := detector.Decode(b)
	otherPulses, otherGaps, _ := detector.Decode(b)
	clear(pulses[:cap(pulses)])
	clear(b)
	if !slices.Equal(gaps, wantGaps) {
		t.Errorf("after writing into the pulses of Decode and its bytes: the gaps %v", gaps)
	}
	clear(gaps[:cap(gaps)])
	if !slices.Equal(otherPulses, wantPulses) || !slices.Equal(otherGaps, wantGaps) {
		t.Errorf("after writing into the results of Decode: %v and %v", otherPulses, otherGaps)
	}
	if again, _, _ := detector.Decode(before); !slices.Equal(again, wantPulses) {
		t.Errorf("Decode after writing into its results: %v", again)
	}
}
