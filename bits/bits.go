// Package bits is layer 1, sets of numbers from 0 to 63 as bits of a word: see shared/doc/01-bits.md.
package bits

import "iter"

// width is how many numbers may be in a set.
const width = 64

// only is the set of i alone; of a number that no set has, the empty one, so that it turns nothing.
func only(i int) uint64 {
	if i < 0 || i >= width {
		return 0
	}
	return 1 << i
}

// each yields the numbers of the set, rising.
func each(m uint64) iter.Seq[int] {
	return func(yield func(int) bool) {
		for i := range width {
			if Has(m, i) && !yield(i) {
				return
			}
		}
	}
}

// Has tells whether i is in the set.
func Has(m uint64, i int) bool {
	return m&only(i) != 0
}

// With is the set with i.
func With(m uint64, i int) uint64 {
	return m | only(i)
}

// Without is the set without i.
func Without(m uint64, i int) uint64 {
	return m &^ only(i)
}

// First is the least of the first n that isn't in the set; -1, if all are.
func First(m uint64, n int) int {
	for i := range each(Lows(n) &^ m) {
		return i
	}
	return -1
}

// Full tells whether all of the first n are in the set.
func Full(m uint64, n int) bool {
	return First(m, n) < 0
}

// Lows is the set of the first n.
func Lows(n int) uint64 {
	// A one that is shifted by 64 is 0: less 1, that is the full set.
	return uint64(1)<<min(max(n, 0), width) - 1
}

// All has the numbers that are in the set, rising.
func All(m uint64) []int {
	var l []int
	for i := range each(m) {
		l = append(l, i)
	}
	return l
}

// Count is how many numbers are in the set.
func Count(m uint64) int {
	n := 0
	for range each(m) {
		n++
	}
	return n
}
