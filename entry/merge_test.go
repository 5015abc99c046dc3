package entry_test

import (
	"math"
	"math/rand"
	"slices"
	"testing"

	"simulcast/api"
	"simulcast/entry"
)

// expectMerge checks what Merge returns, that it leaves its arguments with their spare capacity as they are, and that
// a caller may change what it returns.
func expectMerge(t *testing.T, a, b []api.Entry, err api.Errno, wanted ...api.Entry) {
	t.Helper()
	behind := []api.Entry{written(77, 7, 7, 7), unwritten(76, 6, 6)}
	first, second := slices.Concat(a, behind), slices.Concat(b, behind)
	merged, e := entry.Merge(first[:len(a)], second[:len(b)])
	if e != err {
		t.Errorf("Merge of %s and %s: %d, wanted %d", entry.Text(a...), entry.Text(b...), e, err)
	}
	same(t, "Merge of "+entry.Text(a...)+" and "+entry.Text(b...), merged, wanted...)
	again, _ := entry.Merge(first[:len(a)], second[:len(b)])
	clear(merged[:cap(merged)])
	same(t, "the first argument", first, slices.Concat(a, behind)...)
	same(t, "the second argument", second, slices.Concat(b, behind)...)
	clear(first)
	clear(second)
	same(t, "another result", again, wanted...)
}

// Example 1.
func TestExample(t *testing.T) {
	a := []api.Entry{written(3, 5, 2, 7)}
	b := []api.Entry{unwritten(3, 7, 3), written(1, 0, 0, -1)}
	m, e := entry.Merge(a, b)
	want(t, "Merge", e, api.OK)
	want(t, "Text", entry.Text(m...), "1:0=-1 3:5.2=7")
	_, e = entry.Merge(b, a)
	want(t, "Merge the other way round", e, api.ErrMatch)
	expectMerge(t, a, b, api.OK, written(1, 0, 0, -1), written(3, 5, 2, 7))
	expectMerge(t, b, a, api.ErrMatch)
}

// P17.2: an empty list on either side, or on both.
func TestMergeOfEmptyLists(t *testing.T) {
	for _, empty := range [][]api.Entry{nil, {}} {
		expectMerge(t, empty, nil, api.OK)
		expectMerge(t, empty, []api.Entry{}, api.OK)
		for n := 1; n <= 32; n++ {
			l := valid(n)
			slices.Reverse(l)
			expectMerge(t, empty, l, api.OK, valid(n)...)
			expectMerge(t, l, empty, api.OK, valid(n)...)
		}
		expectMerge(t, empty, valid(33), api.ErrMany)
		expectMerge(t, valid(33), empty, api.ErrMany)
		for _, f := range faults() {
			expectMerge(t, empty, f.l, f.err)
			expectMerge(t, f.l, empty, f.err)
		}
	}
}

// P17.2: both entries of a common location, written or not; the list beside them does not matter.
func TestMergeOfACommonLocation(t *testing.T) {
	for _, x := range []struct{ a, b, both api.Entry }{
		{unwritten(3, 5, 2), unwritten(3, 5, 2), unwritten(3, 5, 2)},
		{unwritten(3, 5, 2), written(3, 5, 2, 7), written(3, 5, 2, 7)},
		{unwritten(3, 5, 2), written(3, 5, 2, 5), written(3, 5, 2, 5)},
		{written(3, 5, 2, 7), unwritten(3, 7, 3), written(3, 5, 2, 7)},
		{written(3, 5, 2, 5), unwritten(3, 5, 3), written(3, 5, 2, 5)},
		{written(3, 5, 2, 7), written(3, 7, 3, 9), written(3, 5, 2, 9)},
		{written(3, 5, 2, 7), written(3, 7, 3, 5), written(3, 5, 2, 5)},
		{unwritten(3, 0, 0), written(3, 0, 0, math.MinInt64), written(3, 0, 0, math.MinInt64)},
		{unwritten(3, 5, math.MaxUint32), unwritten(3, 5, math.MaxUint32), unwritten(3, 5, math.MaxUint32)},
		{written(3, 5, math.MaxUint32-1, 7), unwritten(3, 7, math.MaxUint32), written(3, 5, math.MaxUint32-1, 7)},
		{written(3, 5, math.MaxUint32-2, 7), written(3, 7, math.MaxUint32-1, 9), written(3, 5, math.MaxUint32-2, 9)},
		{unwritten(3, 5, math.MaxUint32-1), written(3, 5, math.MaxUint32-1, 9), written(3, 5, math.MaxUint32-1, 9)},
	} {
		expectMerge(t, []api.Entry{x.a}, []api.Entry{x.b}, api.OK, x.both)
		one, other := unwritten(2, 8, 8), written(4, 9, 9, 9)
		expectMerge(t, []api.Entry{x.a, one}, []api.Entry{other, x.b}, api.OK, one, x.both, other)
		expectMerge(t, []api.Entry{other, x.a}, []api.Entry{x.b, one}, api.OK, one, x.both, other)
		expectMerge(t, []api.Entry{one, x.a}, []api.Entry{x.b, one, other}, api.OK, one, x.both, other)
	}
}

// P17.2: an Old that differs from the result of a in Val only or in Ver only, at each place of both lists.
func TestMergeMismatch(t *testing.T) {
	for _, x := range [][2]api.Entry{
		{unwritten(3, 5, 2), unwritten(3, 6, 2)},
		{unwritten(3, 5, 2), unwritten(3, 5, 3)},
		{unwritten(3, 5, 2), unwritten(3, 5, 1)},
		{unwritten(3, 5, 2), written(3, 6, 2, 5)},
		{unwritten(3, 5, 2), written(3, 5, 3, 5)},
		{written(3, 5, 2, 7), unwritten(3, 7, 2)},
		{written(3, 5, 2, 7), unwritten(3, 7, 4)},
		{written(3, 5, 2, 7), unwritten(3, 5, 3)},
		{written(3, 5, 2, 7), unwritten(3, 5, 2)},
		{written(3, 5, 2, 7), written(3, 7, 2, 9)},
		{written(3, 5, 2, 7), written(3, 5, 2, 7)},
		{written(3, 5, 2, 7), written(3, 6, 3, 7)},
		{written(3, 5, 2, 5), written(3, 5, 2, 5)},
		{unwritten(3, 5, math.MaxUint32), unwritten(3, 5, 0)},
		{written(3, 5, math.MaxUint32-1, 5), unwritten(3, 5, 0)},
		{written(3, 5, math.MaxUint32-1, 5), unwritten(3, 5, math.MaxUint32-1)},
	} {
		for i := range 4 {
			for j := range 4 {
				a, b := valid(3), []api.Entry{unwritten(1, 0, 0), unwritten(2, 0, 0), unwritten(9, 0, 0)}
				expectMerge(t, slices.Insert(a, i, x[0]), slices.Insert(b, j, x[1]), api.ErrMatch)
			}
		}
		expectMerge(t, x[:1], x[1:], api.ErrMatch)
	}
}

// reads returns unwritten entries at n locations from at on.
func reads(at, n int) []api.Entry {
	var l []api.Entry
	for i := range n {
		l = append(l, unwritten(api.Loc(at+i), int64(i), 1))
	}
	return l
}

// P17.2: lists that have up to 32 locations together, and more than that.
func TestMergeOfManyLocations(t *testing.T) {
	for n := 1; n <= 32; n++ {
		all := reads(100, 32)
		expectMerge(t, all[:n], all[n-1:], api.OK, all...)
		expectMerge(t, all[n-1:], all[:n], api.OK, all...)
		expectMerge(t, all[:n], all, api.OK, all...)
		expectMerge(t, all, all[:n], api.OK, all...)
		for more := 33 - n; more <= 32; more++ {
			expectMerge(t, all[:n], reads(500, more), api.ErrMany)
			expectMerge(t, reads(50, more), all[:n], api.ErrMany)
		}
		expectMerge(t, all, append(all[:n-1:n-1], unwritten(99, 0, 0)), api.ErrMany)
		expectMerge(t, append(all[:n-1:n-1], unwritten(4000, 0, 0)), all, api.ErrMany)
	}
}

// P17.2: an invalid list on either side.
func TestMergeOfInvalidLists(t *testing.T) {
	for _, f := range faults() {
		for _, l := range [][]api.Entry{reads(50, 1), reads(50, 31), reads(3, 9), reads(50, 32)} {
			expectMerge(t, f.l, l, f.err)
			expectMerge(t, l, f.l, f.err)
			expectMerge(t, append(reads(200, 5), f.l...), l, f.err)
			expectMerge(t, l, append(reads(200, 5), f.l...), f.err)
		}
	}
	expectMerge(t, valid(33), reads(50, 1), api.ErrMany)
	expectMerge(t, reads(50, 1), valid(33), api.ErrMany)
}

// P17.2: which error comes first.
func TestFirstErrorOfMerge(t *testing.T) {
	wrong := unwritten(100, 99, 99) // it matches no entry of valid
	expectMerge(t, []api.Entry{wrong}, valid(32), api.ErrMatch)
	expectMerge(t, append(valid(1), reads(300, 31)...), append(reads(500, 31), wrong), api.ErrMatch)
	expectMerge(t, append(reads(300, 31), valid(1)...), append(reads(500, 31), wrong), api.ErrMatch)
	for _, f := range faults() {
		for _, g := range faults() {
			expectMerge(t, f.l, g.l, f.err)
			expectMerge(t, valid(33), g.l, api.ErrMany)
			expectMerge(t, f.l, valid(33), f.err)
		}
		expectMerge(t, append(valid(1), f.l...), []api.Entry{wrong}, f.err)
		expectMerge(t, []api.Entry{wrong}, append(valid(1), f.l...), f.err)
		expectMerge(t, slices.Concat(reads(300, 20), f.l), reads(500, 32), f.err)
		expectMerge(t, reads(500, 32), slices.Concat(reads(300, 20), f.l), f.err)
	}
}

// plainResult returns what is at a location after an entry.
func plainResult(e api.Entry) (int64, uint64) {
	if e.Write {
		return e.New, uint64(e.Old.Ver) + 1
	}
	return e.Old.Val, uint64(e.Old.Ver)
}

// plainMerge is Merge of valid lists, location by location.
func plainMerge(a, b []api.Entry) ([]api.Entry, api.Errno) {
	var merged []api.Entry
	differ := false
	for at := range api.Loc(4096) {
		hasAt := func(e api.Entry) bool { return e.At == at }
		i, j := slices.IndexFunc(a, hasAt), slices.IndexFunc(b, hasAt)
		switch {
		case i >= 0 && j >= 0:
			val, ver := plainResult(a[i])
			differ = differ || val != b[j].Old.Val || ver != uint64(b[j].Old.Ver)
			merged = append(merged, api.Entry{At: at, Old: a[i].Old, New: b[j].New, Write: a[i].Write || b[j].Write})
		case i >= 0:
			merged = append(merged, a[i])
		case j >= 0:
			merged = append(merged, b[j])
		}
	}
	switch {
	case differ:
		return nil, api.ErrMatch
	case len(merged) > 32:
		return nil, api.ErrMany
	}
	return merged, api.OK
}

// validEntry returns a valid entry at a location where the word has this value and version.
func validEntry(r *rand.Rand, at api.Loc, val int64, ver uint32) api.Entry {
	if r.Intn(2) == 0 || ver == math.MaxUint32 {
		return unwritten(at, val, ver)
	}
	return written(at, val, ver, int64(r.Intn(3)))
}

// follow returns a valid list of n entries among locations; it expects the result of the last one of the lists ahead
// that has the location, with few exceptions.
func follow(r *rand.Rand, n, locations int, ahead ...[]api.Entry) []api.Entry {
	var l []api.Entry
	for _, i := range r.Perm(locations)[:n] {
		at := api.Loc(i)
		if r.Intn(9) == 0 {
			at = api.Loc(4095 - i)
		}
		val, ver := int64(i%3), []uint32{0, 1, 2, math.MaxUint32 - 2, math.MaxUint32 - 1, math.MaxUint32}[i%6]
		for _, e := range slices.Concat(ahead...) {
			if e.At == at {
				v, n := plainResult(e)
				val, ver = v, uint32(n)
			}
		}
		if len(ahead) > 0 && r.Intn(60) == 0 {
			val++
		}
		if len(ahead) > 0 && r.Intn(60) == 0 {
			ver++
		}
		l = append(l, validEntry(r, at, val, ver))
	}
	return l
}

// P17.2 and P17.4: random lists; what Merge returns without an error is valid.
func TestMerge(t *testing.T) {
	r := rand.New(rand.NewSource(6))
	seen := map[api.Errno]int{}
	for range 2000 {
		locations := []int{6, 40}[r.Intn(2)]
		a := follow(r, r.Intn(min(locations, 32)), locations)
		b := follow(r, r.Intn(min(locations, 32)), locations, a)
		wanted, err := plainMerge(a, b)
		seen[err]++
		expectMerge(t, a, b, err, wanted...)
		if err == api.OK && len(wanted) > 0 {
			expectCheck(t, api.OK, wanted...)
		}
	}
	for _, err := range []api.Errno{api.OK, api.ErrMatch, api.ErrMany} {
		if seen[err] < 100 {
			t.Errorf("only %d compositions with error %d", seen[err], err)
		}
	}
}

// P17.4: a composition in both groupings, where both of them are defined.
func TestAssociative(t *testing.T) {
	r := rand.New(rand.NewSource(7))
	defined := 0
	for range 6000 {
		locations := []int{4, 12, 40}[r.Intn(3)]
		n := func() int { return r.Intn(min(locations, 20)) }
		a := follow(r, n(), locations)
		b := follow(r, n(), locations, a)
		c := follow(r, n(), locations, a, b)
		ab, e1 := entry.Merge(a, b)
		left, e2 := entry.Merge(ab, c)
		bc, e3 := entry.Merge(b, c)
		right, e4 := entry.Merge(a, bc)
		if e1 != api.OK || e2 != api.OK || e3 != api.OK || e4 != api.OK {
			continue
		}
		defined++
		if !slices.Equal(left, right) {
			t.Errorf("%s, %s, %s: %s and %s", entry.Text(a...), entry.Text(b...), entry.Text(c...), entry.Text(left...), entry.Text(right...))
		}
	}
	if defined < 500 {
		t.Errorf("only %d of the compositions are defined in both groupings", defined)
	}
}

// P17.4: groupings by hand. The composition of two writes counts as one version, so that a third list that follows both
// matches in one grouping only.
func TestGroupings(t *testing.T) {
	a, b, c := []api.Entry{written(3, 5, 2, 7)}, []api.Entry{unwritten(3, 7, 3), written(1, 0, 0, 4)}, []api.Entry{written(1, 4, 1, 6), written(3, 7, 3, 8), unwritten(9, 1, 1)}
	ab, _ := entry.Merge(a, b)
	bc, _ := entry.Merge(b, c)
	wanted := []api.Entry{written(1, 0, 0, 6), written(3, 5, 2, 8), unwritten(9, 1, 1)}
	expectMerge(t, ab, c, api.OK, wanted...)
	expectMerge(t, a, bc, api.OK, wanted...)

	b, c = []api.Entry{written(3, 7, 3, 8)}, []api.Entry{unwritten(3, 8, 4)}
	ab, _ = entry.Merge(a, b)
	bc, _ = entry.Merge(b, c)
	expectMerge(t, ab, c, api.ErrMatch)
	expectMerge(t, a, bc, api.OK, written(3, 5, 2, 8))
}
