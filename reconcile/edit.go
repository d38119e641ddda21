package reconcile

import (
	"iter"

	"humpyard/api"
)

// kind is what the edits with one number do: each passes elements of the announced and of the measured list, and has a cost.
type kind struct {
	announced, measured, cost int
}

// kinds has the kind of an edit at the index that is its number.
var kinds = [...]kind{
	api.EditKeep:     {announced: 1, measured: 1, cost: 0},
	api.EditMisread:  {announced: 1, measured: 1, cost: 3},
	api.EditMissing:  {announced: 1, measured: 0, cost: 4},
	api.EditExtra:    {announced: 0, measured: 1, cost: 4},
	api.EditExchange: {announced: 2, measured: 2, cost: 4},
}

// isPossible says whether the edit with a number is possible where a and b are left of the two lists.
func isPossible(number int, a, b []int) bool {
	if number < 0 || number >= len(kinds) || len(a) < kinds[number].announced || len(b) < kinds[number].measured {
		return false
	}
	switch number {
	case api.EditKeep:
		return a[0] == b[0]
	case api.EditMisread:
		return a[0] != b[0]
	case api.EditExchange:
		return a[0] == b[1] && a[1] == b[0] && a[0] != a[1]
	}
	return true
}

// possible yields the edits that are possible where a and b are left of the two lists, in the order of their numbers.
func possible(a, b []int) iter.Seq2[int, kind] {
	return func(yield func(int, kind) bool) {
		for number, k := range kinds {
			if isPossible(number, a, b) && !yield(number, k) {
				return
			}
		}
	}
}
