// Package seq: numbers that go round: see ../shared/doc/01-seq.md.
package seq

import (
	"slices"

	"muezzin/api"
)

// round is n from 0 to 4095. An int wraps at a multiple of api.Seqs, so a
// sum or a difference that overflowed still has its true low bits; the mask
// reads them, for numbers below 0 too, where % would not.
func round(n int) int { return n & (api.Seqs - 1) }

// Add is a and n together, from 0 to 4095.
func Add(a, n int) int { return round(a + n) }

// Dist is how far b is behind a, from 0 to 4095.
func Dist(a, b int) int { return round(b - a) }

// Ahead tells whether b is behind a by less than half of the way round, and not a itself.
func Ahead(a, b int) bool {
	d := Dist(a, b)
	return 0 < d && d < api.Seqs/2
}

// In tells whether s is one of the size numbers from start on.
func In(start, size, s int) bool { return Dist(start, s) < size }

// Sort is the numbers of l, from 0 to 4095, each as often, by their Dist from start.
func Sort(start int, l ...int) []int {
	out := make([]int, len(l))
	for i, n := range l {
		out[i] = Dist(start, n)
	}
	// Equal distances are equal numbers, so the distances alone can be sorted.
	slices.Sort(out)
	for i, d := range out {
		out[i] = Add(start, d)
	}
	return out
}
