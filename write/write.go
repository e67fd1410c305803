// Package write: which writes may be, for the layers that take them as store's
// Apply does: see DOC.md, chapter 12.
package write

import (
	"hourglass/api"
	"hourglass/key"
)

// Good tells whether one may be.
func Good(w api.Write) bool {
	if w.Gone && w.Value != "" {
		return false
	}
	return key.Good(w.Key) && len(w.Value) <= api.MaxValue
}

// GoodList tells whether some may be, one by one and beside each other.
func GoodList(l []api.Write) bool {
	if len(l) == 0 || len(l) > api.MaxWrites {
		return false
	}
	seen := map[api.Key]struct{}{}
	for _, w := range l {
		if !Good(w) {
			return false
		}
		seen[w.Key] = struct{}{}
	}
	return len(seen) == len(l)
}
