package view_test

import (
	"math"
	"slices"
	"testing"

	"simulcast/api"
	"simulcast/view"
)

var invalidLocs = []api.Loc{-1, -api.MaxLocs, api.MaxLocs, api.MaxLocs + 1, math.MinInt, math.MaxInt}

// numbers describes a view by the numbers at the locations 0, 1 and MaxLocs-1.
type numbers [3]int

var places = [3]api.Loc{0, 1, api.MaxLocs - 1}

func (x numbers) view() view.View {
	var v view.View
	for i, n := range x {
		v = v.With(places[i], n)
	}
	return v
}

// all returns every description with numbers from 0 to 2.
func all() []numbers {
	var l []numbers
	for i := range 27 {
		l = append(l, numbers{i % 3, i / 3 % 3, i / 9})
	}
	return l
}

// check compares v with its description at every location, valid or not.
func check(t *testing.T, what string, v view.View, wanted numbers) {
	t.Helper()
	var locs []api.Loc
	for l := api.Loc(-2); l < api.MaxLocs+2; l++ {
		n := 0
		if i := slices.Index(places[:], l); i >= 0 {
			n = wanted[i]
		}
		if n != 0 {
			locs = append(locs, l)
		}
		if v.At(l) != n {
			t.Fatalf("%s: %d at %d, wanted %d", what, v.At(l), l, n)
		}
	}
	if !slices.Equal(v.Locs(), locs) {
		t.Fatalf("%s: Locs is %v, wanted %v", what, v.Locs(), locs)
	}
}

// P2.1: the zero view.
func TestZeroView(t *testing.T) {
	check(t, "zero", view.View{}, numbers{})
	for _, l := range invalidLocs {
		if n := (view.View{}).At(l); n != 0 {
			t.Errorf("At(%d) = %d", l, n)
		}
	}
}

// P2.1: With takes the maximum, whatever v and n.
func TestWithTakesTheMaximum(t *testing.T) {
	for _, x := range all() {
		for i, l := range places {
			for _, n := range []int{math.MinInt, -1, 0, 1, 2, 3, math.MaxInt} {
				v, wanted := x.view(), x
				wanted[i] = max(x[i], n)
				check(t, "With", v.With(l, n), wanted)
				check(t, "receiver of With", v, x)
			}
		}
	}
}

func TestWithOfInvalidLocation(t *testing.T) {
	for _, x := range []numbers{{}, {1, 0, 2}} {
		for _, l := range invalidLocs {
			for _, n := range []int{math.MinInt, 0, 1, math.MaxInt} {
				v := x.view().With(l, n)
				check(t, "With", v, x)
				if v.At(l) != 0 || !view.Same(v, x.view()) {
					t.Errorf("With(%d, %d) changes the view", l, n)
				}
			}
		}
	}
}

// P2.1: Locs is sorted, with as many locations as there are.
func TestLocsOfAllLocations(t *testing.T) {
	var v view.View
	for i := range api.MaxLocs {
		v = v.With(api.Loc(i*7%api.MaxLocs), i+1)
	}
	l := v.Locs()
	if len(l) != api.MaxLocs || !slices.IsSorted(l) || l[0] != 0 || l[api.MaxLocs-1] != api.MaxLocs-1 {
		t.Errorf("Locs has %d locations, sorted: %v", len(l), slices.IsSorted(l))
	}
}

// P2.2, P2.3: Join, Below and Same of every two small views.
func TestPairs(t *testing.T) {
	for _, x := range all() {
		for _, y := range all() {
			a, b := x.view(), y.view()
			high, below := numbers{}, true
			for i := range x {
				high[i] = max(x[i], y[i])
				below = below && x[i] <= y[i]
			}
			check(t, "Join", view.Join(a, b), high)
			if view.Below(a, b) != below {
				t.Fatalf("Below(%v, %v) = %v", x, y, !below)
			}
			if view.Same(a, b) != (x == y) {
				t.Fatalf("Same(%v, %v) = %v", x, y, x != y)
			}
			check(t, "first argument", a, x)
			check(t, "second argument", b, y)
		}
	}
}

// P2.2: numbers that are written in another order, or over smaller ones, make the same view.
func TestSameHangsOnTheNumbersAlone(t *testing.T) {
	var zero view.View
	a := zero.With(1, 4).With(3, 2)
	b := zero.With(3, 1).With(7, 0).With(3, 2).With(9, -5).With(-1, 5).With(1, 4).With(1, 2)
	if !view.Same(a, b) || !view.Same(b, a) || !view.Below(a, b) || !view.Below(b, a) {
		t.Errorf("%v and %v are not the same", a, b)
	}
	if !view.Same(zero, zero.With(2, 0)) || !view.Same(zero.With(-3, 4), zero) || !view.Same(view.Join(zero, zero), zero) {
		t.Error("views without numbers are not the same")
	}
}

// P2.3: the laws of the order and of its least upper bounds.
func TestLaws(t *testing.T) {
	var views []view.View
	for _, x := range all() {
		views = append(views, x.view())
	}
	for _, a := range views {
		if !view.Below(a, a) || !view.Same(view.Join(a, a), a) {
			t.Fatal("Below is not reflexive or Join not idempotent")
		}
		for _, b := range views {
			j := view.Join(a, b)
			if !view.Same(j, view.Join(b, a)) {
				t.Fatal("Join is not commutative")
			}
			if !view.Below(a, j) || !view.Below(b, j) {
				t.Fatal("Join is no upper bound")
			}
			if view.Below(a, b) && view.Below(b, a) && !view.Same(a, b) {
				t.Fatal("Below is not antisymmetric")
			}
			for _, c := range views {
				if !view.Same(view.Join(j, c), view.Join(a, view.Join(b, c))) {
					t.Fatal("Join is not associative")
				}
				if view.Below(a, c) && view.Below(b, c) && !view.Below(j, c) {
					t.Fatal("Join is not the least upper bound")
				}
				if view.Below(a, b) && view.Below(b, c) && !view.Below(a, c) {
					t.Fatal("Below is not transitive")
				}
			}
		}
	}
}

// P2.3: no view changes, neither by With of it, of its copy or of what came of it, nor through a list that it gave out.
func TestViewsStay(t *testing.T) {
	first := numbers{1, 0, 2}
	v := first.view()
	same := v
	left, right := v.With(0, 5), v.With(1, 6)
	joined := view.Join(v, view.View{})
	joined.With(1, 9)
	same.With(1, 7)
	view.Join(view.View{}, v).With(0, 8)
	v.With(-1, 3).With(0, 9)
	v.With(1, 0).With(1, 9)
	left.With(1, 9)
	l := v.Locs()
	l[0] = 77
	_ = append(l[:1], 78)
	check(t, "view", v, first)
	check(t, "copy", same, first)
	check(t, "left", left, numbers{5, 0, 2})
	check(t, "right", right, numbers{1, 6, 2})
	check(t, "joined", joined, first)
}

// The example of the chapter.
func TestExample(t *testing.T) {
	var zero view.View
	a := zero.With(3, 2).With(1, 4).With(3, 1)
	b := zero.With(3, 3)
	if a.At(3) != 2 || !slices.Equal(a.Locs(), []api.Loc{1, 3}) {
		t.Errorf("a has %d at 3 and the locations %v", a.At(3), a.Locs())
	}
	j := view.Join(a, b)
	if j.At(1) != 4 || j.At(3) != 3 || !view.Below(a, j) || !view.Below(b, j) {
		t.Errorf("Join has %d at 1 and %d at 3", j.At(1), j.At(3))
	}
}
