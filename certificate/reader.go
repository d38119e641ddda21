package certificate

import "humpyard/api"

// reader reads an encoding from its beginning on.
type reader struct {
	rest []byte
	// short: the bytes ended early; what was missing was read as zeros.
	short bool
}

// proof reads the parts of a proof in their order. There is no limit on its lists but that of their bytes.
func (r *reader) proof() api.Proof {
	var p api.Proof
	p.Plan.Steps = r.single()
	p.Plan.Codes = r.list((*reader).pair)
	p.Chain = r.list((*reader).single)
	return p
}

// list reads a number of elements, and each of them with next.
func (r *reader) list(next func(*reader) int) []int {
	l := make([]int, r.single())
	for i := range l {
		l[i] = next(r)
	}
	return l
}

// pair reads a number of two bytes.
func (r *reader) pair() int {
	high := r.single()
	return high<<8 | r.single()
}

// single reads a number of one byte.
func (r *reader) single() int {
	if len(r.rest) == 0 {
		r.short = true
		return 0
	}
	n := int(r.rest[0])
	r.rest = r.rest[1:]
	return n
}
