package impl

import "cmp"

// Codes and limits, see chapter 1.
const (
	OK          = 0
	ErrForm     = 1
	ErrSize     = 2
	ErrSyntax   = 3
	ErrCount    = 4
	ErrNone     = 5
	ErrState    = 6
	ErrRight    = 7
	ErrLimit    = 8
	ErrConflict = 9
	ErrSum      = 10
	MaxBytes    = 65536
	MaxList     = 1000
)

// tooLong stands apart from the layers because each call that takes a text refuses one by the same bound.
func tooLong(text string) bool {
	return len(text) > MaxBytes
}

// areRising stands apart from the layers because more than one has such lists.
func areRising[T cmp.Ordered](items []T, isOne func(item T) bool) bool {
	for at, item := range items {
		if !isOne(item) || at > 0 && item <= items[at-1] {
			return false
		}
	}
	return true
}
