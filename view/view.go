// Package view is layer 2: the newest message of each location that a thread knows of.
package view

import (
	"maps"
	"slices"

	"simulcast/api"
)

// View maps every location to the number of the newest known message. Its zero value maps all of them to 0.
type View struct {
	// newest holds the valid locations with a positive number, and no others. It is never changed once a View has it:
	// views are values, and copies of one share its map.
	newest map[api.Loc]int
}

// At returns the number at l, or 0 if l is invalid.
func (v View) At(l api.Loc) int { return v.newest[l] }

// With returns v with the number at l raised to n.
func (v View) With(l api.Loc, n int) View {
	m := copyOf(v.newest)
	if valid(l) {
		raise(m, l, n)
	}
	return View{m}
}

// Locs returns the locations whose number is not 0, in increasing order.
func (v View) Locs() []api.Loc { return slices.Sorted(maps.Keys(v.newest)) }

// Join returns the pointwise maximum of a and b.
func Join(a, b View) View {
	m := copyOf(a.newest)
	for l, n := range b.newest {
		raise(m, l, n)
	}
	return View{m}
}

// Below reports whether no location has a greater number in a than in b.
func Below(a, b View) bool {
	for l, n := range a.newest {
		if n > b.At(l) {
			return false
		}
	}
	return true
}

// Same reports whether a and b have the same number at every location.
func Same(a, b View) bool { return maps.Equal(a.newest, b.newest) }

func valid(l api.Loc) bool { return l >= 0 && l < api.MaxLocs }

// copyOf returns a map that may be changed, even if m is nil.
func copyOf(m map[api.Loc]int) map[api.Loc]int {
	c := make(map[api.Loc]int, len(m)+1)
	maps.Copy(c, m)
	return c
}

// raise sets m at l to n if that is more; so it never stores a number that is not positive.
func raise(m map[api.Loc]int, l api.Loc, n int) {
	if n > m[l] {
		m[l] = n
	}
}
