package consist

import "humpyard/api"

// reader reads an encoding from an offset on. It goes on where something is not right and only notes it, because which error is the first one depends on all of the bytes.
type reader struct {
	bytes []byte
	next  int
	// short: the bytes ended early; what was missing was read as zeros.
	short bool
	// wrong: a digit, or a byte with goods, was none.
	wrong bool
}

// take returns the next n bytes and advances the offset behind them.
func (r *reader) take(n int) []byte {
	if len(r.bytes)-r.next < n {
		r.short = true
		r.next = len(r.bytes)
		return make([]byte, n)
	}
	part := r.bytes[r.next : r.next+n]
	r.next += n
	return part
}

// single reads a number of one byte.
func (r *reader) single() int {
	return int(r.take(1)[0])
}

// pair reads a number of two bytes.
func (r *reader) pair() int {
	p := r.take(2)
	return int(p[0])<<8 | int(p[1])
}

// list reads the wagons of a list.
func (r *reader) list() []api.Wagon {
	l := make([]api.Wagon, r.single())
	for i := range l {
		l[i] = r.wagon()
	}
	return l
}

// wagon reads the parts of a wagon in their order.
func (r *reader) wagon() api.Wagon {
	var w api.Wagon
	w.Number = r.number()
	w.Length = r.pair()
	w.Axles = r.single()
	w.Mass = r.pair()
	w.Brake = r.pair()
	w.Goods, w.Gentle = r.goods()
	w.Dest = string(r.take(r.single()))
	return w
}

// number reads the digits of a Number.
func (r *reader) number() string {
	var digits []byte
	for _, c := range r.take(numberSize) {
		high, low := c>>4, c&15
		r.wrong = r.wrong || high > maxDigit || low > maxDigit
		digits = append(digits, '0'+high, '0'+low)
	}
	return string(digits)
}

// goods reads the class of the goods, and whether the wagon must not be humped.
func (r *reader) goods() (class int, gentle bool) {
	class = r.single()
	gentle = class >= gentleMark
	if gentle {
		class -= gentleMark
	}
	// Encode would refuse such goods as well, but as out of range, and behind the errors of other parts.
	r.wrong = r.wrong || class > maxGoods
	return class, gentle
}
