// Package walk goes through trees without calling itself: they may be deeper than calls may. env and step both go through types with it.
package walk

import (
	"iter"
	"slices"
)

// All: a thing, and all that is in it, each ahead of its kids, and those in order. A thing's kids are asked for behind its turn, so that one who ranges may end ahead of them, or give it others. The list of them is put in another order.
func All[T any](whole T, kids func(T) []T) iter.Seq[T] {
	return func(yield func(T) bool) {
		work := []T{whole}
		for len(work) > 0 {
			last := work[len(work)-1]
			work = work[:len(work)-1]
			if !yield(last) {
				return
			}
			more := kids(last)
			slices.Reverse(more) // the first kid is the next one
			work = append(work, more...)
		}
	}
}
