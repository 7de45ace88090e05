// Package every makes what the tests of the other packages go through.
package every

import (
	"iter"
	"slices"
	"strings"
)

// List yields every list of at most most of the items, the empty one first. A
// list holds only till the next one is asked for.
func List[T any](most int, items ...T) iter.Seq[[]T] {
	var grow func(l []T, yield func([]T) bool) bool
	grow = func(l []T, yield func([]T) bool) bool {
		if !yield(slices.Clip(l)) {
			return false
		}
		for k := 0; len(l) < most && k < len(items); k++ {
			if !grow(append(l, items[k]), yield) {
				return false
			}
		}
		return true
	}
	return func(yield func([]T) bool) { grow(make([]T, 0, max(0, most)), yield) }
}

// Text yields every text of at most most of the pieces, the empty one first.
func Text(most int, pieces ...string) iter.Seq[string] {
	return func(yield func(string) bool) {
		for l := range List(most, pieces...) {
			if !yield(strings.Join(l, "")) {
				return
			}
		}
	}
}
