// Package pick looks for the best of what an iterator tells.
package pick

import "iter"

// Best gives what is better than all else that is told, and whether anything was told.
// Of equals the first one stays, so the order of the telling settles them.
func Best[T any](told iter.Seq[T], better func(a, b T) bool) (T, bool) {
	var best T
	found := false
	for one := range told {
		if !found || better(one, best) {
			best, found = one, true
		}
	}
	return best, found
}
