package entry_test

import (
	"math"
	"math/rand"
	"slices"
	"testing"

	"simulcast/api"
	"simulcast/entry"
)

func written(at api.Loc, val int64, ver uint32, next int64) api.Entry {
	return api.Entry{At: at, Old: api.Word{Val: val, Ver: ver}, New: next, Write: true}
}

func unwritten(at api.Loc, val int64, ver uint32) api.Entry {
	return api.Entry{At: at, Old: api.Word{Val: val, Ver: ver}, New: val}
}

func want[T comparable](t *testing.T, what string, got, wanted T) {
	t.Helper()
	if got != wanted {
		t.Errorf("%s: %v, wanted %v", what, got, wanted)
	}
}

// same compares lists; a nil one is equal to an empty one.
func same(t *testing.T, what string, got []api.Entry, wanted ...api.Entry) {
	t.Helper()
	if !slices.Equal(got, wanted) {
		t.Errorf("%s: %v, wanted %v", what, got, wanted)
	}
}

// call passes f a copy of the list with spare capacity, and checks that f changes neither.
func call[T any](t *testing.T, what string, f func(l ...api.Entry) T, l ...api.Entry) T {
	t.Helper()
	whole := append(slices.Clone(l), written(77, 7, 7, 7), unwritten(76, 6, 6), written(-1, 1, 1, 1))
	before := slices.Clone(whole)
	result := f(whole[:len(l)]...)
	same(t, what+": the argument and what is behind it", whole, before...)
	return result
}

// expectCheck checks what Check returns.
func expectCheck(t *testing.T, wanted api.Errno, l ...api.Entry) {
	t.Helper()
	if got := call(t, "Check", entry.Check, l...); got != wanted {
		t.Errorf("Check of %v: %d, wanted %d", l, got, wanted)
	}
}

// valid returns a valid list of n entries at the locations from 100 on.
func valid(n int) []api.Entry {
	var l []api.Entry
	for i := range n {
		if i%3 == 1 {
			l = append(l, unwritten(api.Loc(100+i), int64(i), uint32(i)))
		} else {
			l = append(l, written(api.Loc(100+i), int64(i), uint32(i), int64(-i)))
		}
	}
	return l
}

var (
	badLocations = []api.Loc{math.MinInt, math.MinInt + 1, -1 << 32, -4096, -4095, -2, -1, 4096, 4097, 8191, 1 << 32, 1<<32 + 5, math.MaxInt - 1, math.MaxInt}
	refs         = []uint32{1, 7, 1<<24 - 1, 1 << 24, 1<<24 + 1, 8<<24 + 3, 72<<24 + api.MaxSeq, 73<<24 + 1, 1 << 31, math.MaxUint32 - 1, math.MaxUint32}
	otherValues  = [][2]int64{{0, 1}, {1, 0}, {0, -1}, {5, 4}, {5, -5}, {0, 1 << 32}, {1 << 32, 0}, {math.MinInt64, math.MaxInt64}, {math.MaxInt64, math.MinInt64}, {0, math.MinInt64}, {math.MaxInt64, math.MaxInt64 - 1}}
)

// fault is a list of one entry, or of two with the fault in the second one, with the error that Check returns.
type fault struct {
	l   []api.Entry
	err api.Errno
}

// faults returns faults of every kind.
func faults() []fault {
	var l []fault
	add := func(err api.Errno, e ...api.Entry) { l = append(l, fault{e, err}) }
	for _, at := range badLocations {
		add(api.ErrRange, written(at, 5, 2, 7))
		add(api.ErrRange, unwritten(at, 5, 2))
	}
	for _, ref := range refs {
		one, other := written(3, 5, 2, 7), unwritten(4, 5, 2)
		one.Old.Ref, other.Old.Ref = ref, ref
		add(api.ErrState, one)
		add(api.ErrState, other)
	}
	add(api.ErrFull, written(5, 0, math.MaxUint32, 0))
	add(api.ErrFull, written(5, 3, math.MaxUint32, -3))
	for _, v := range otherValues {
		add(api.ErrValue, api.Entry{At: 6, Old: api.Word{Val: v[0], Ver: 2}, New: v[1]})
	}
	add(api.ErrTwice, written(7, 5, 2, 7), written(7, 5, 2, 7))
	add(api.ErrTwice, written(8, 5, 2, 7), written(8, 7, 3, 9))
	add(api.ErrTwice, written(9, 5, 2, 7), unwritten(9, 7, 3))
	add(api.ErrTwice, unwritten(10, 5, 2), unwritten(10, 5, 2))
	add(api.ErrTwice, unwritten(11, 5, 2), written(11, 1, 1, 1))
	return l
}

// P17.1: lists of every length up to 32 are valid, longer ones are not, whatever is in them.
func TestLengths(t *testing.T) {
	expectCheck(t, api.ErrEmpty)
	expectCheck(t, api.ErrEmpty, []api.Entry{}...)
	for n := 1; n <= 32; n++ {
		expectCheck(t, api.OK, valid(n)...)
	}
	for _, n := range []int{33, 34, 64, 5000} {
		expectCheck(t, api.ErrMany, valid(n)...)
		expectCheck(t, api.ErrMany, make([]api.Entry, n)...)
		for _, f := range faults() {
			expectCheck(t, api.ErrMany, append(slices.Clone(f.l), valid(n-len(f.l))...)...)
		}
	}
}

// P17.1: valid entries at both ends of what is valid.
func TestValidEntries(t *testing.T) {
	for _, at := range []api.Loc{0, 1, 8, 2047, 4094, 4095} {
		for _, ver := range []uint32{0, 1, 1 << 31, math.MaxUint32 - 1} {
			for _, v := range []int64{math.MinInt64, -1, 0, 1, math.MaxInt64} {
				expectCheck(t, api.OK, written(at, v, ver, v))
				expectCheck(t, api.OK, written(at, 0, ver, v))
				expectCheck(t, api.OK, written(at, v, ver, 0))
				expectCheck(t, api.OK, unwritten(at, v, ver))
				expectCheck(t, api.OK, unwritten(at, v, math.MaxUint32))
				expectCheck(t, api.ErrFull, written(at, v, math.MaxUint32, v))
			}
		}
	}
	expectCheck(t, api.OK, written(4095, 1, 1, 1), unwritten(0, 1, 1), written(2, 1, 1, 1), unwritten(1, 1, 1))
}

// P17.1: a version has 32 bits, so that one below 0 or above MaxVer is another one.
func TestVersionsWrap(t *testing.T) {
	for n, err := range map[int64]api.Errno{-1: api.ErrFull, -2: api.OK, math.MaxUint32: api.ErrFull, math.MaxUint32 + 1: api.OK, 1<<33 - 1: api.ErrFull} {
		expectCheck(t, err, written(1, 5, uint32(n), 6))
		expectCheck(t, api.OK, unwritten(1, 5, uint32(n)))
	}
}

// P17.1: each fault alone, and at every place of a long list.
func TestFaults(t *testing.T) {
	for _, f := range faults() {
		expectCheck(t, f.err, f.l...)
		for _, n := range []int{1, 2, 15, 30} {
			for i := range n + 1 {
				expectCheck(t, f.err, slices.Insert(valid(n), i, f.l...)...)
			}
		}
	}
}

// P17.1: a location that two entries have, at all places of these.
func TestTwice(t *testing.T) {
	for _, n := range []int{2, 3, 32} {
		for j := range n {
			for i := range j {
				l := valid(n)
				l[j].At = l[i].At
				expectCheck(t, api.ErrTwice, l...)
			}
		}
	}
	expectCheck(t, api.ErrTwice, make([]api.Entry, 32)...)
}

// P17.1: which error of one entry comes first.
func TestFirstErrorOfAnEntry(t *testing.T) {
	for _, bits := range rand.New(rand.NewSource(1)).Perm(32) {
		e, err := unwritten(3, 5, 2), api.OK
		if bits&1 != 0 { // the entry ahead has the same location
			err = api.ErrTwice
		}
		if bits&2 != 0 {
			e.New, err = 6, api.ErrValue
		}
		if bits&4 != 0 {
			e.Old.Ver, e.Write, err = math.MaxUint32, true, api.ErrFull
		}
		if bits&8 != 0 {
			e.Old.Ref, err = 1<<24+1, api.ErrState
		}
		ahead := unwritten(e.At+api.Loc(1-bits&1), 5, 2)
		if bits&16 != 0 {
			e.At, err = -3, api.ErrRange
		}
		expectCheck(t, err, ahead, e)
		expectCheck(t, err, unwritten(9, 1, 1), ahead, written(10, 1, 1, 1), e, unwritten(11, 1, 1))
	}
}

// P17.1: of two faults, that of the earlier entry comes first.
func TestFirstErrorBetweenEntries(t *testing.T) {
	for _, f := range faults() {
		for _, g := range faults() {
			if f.err == g.err { // they may have a location in common
				continue
			}
			l := slices.Concat(f.l, g.l)
			expectCheck(t, f.err, l...)
			expectCheck(t, f.err, slices.Concat(valid(3), f.l, g.l)...)
			expectCheck(t, f.err, slices.Concat(f.l, valid(28), g.l)...)
		}
	}
}

// anyEntry returns an entry that may have faults.
func anyEntry(r *rand.Rand) api.Entry {
	e := api.Entry{At: api.Loc(r.Intn(400)), Old: api.Word{Val: int64(r.Intn(9)), Ver: uint32(r.Intn(9))}, Write: r.Intn(2) == 0}
	e.New = e.Old.Val
	if e.Write {
		e.New = int64(r.Intn(9))
	}
	switch r.Intn(40) {
	case 0:
		e.At = badLocations[r.Intn(len(badLocations))]
	case 1:
		e.Old.Ref = refs[r.Intn(len(refs))]
	case 2:
		e.Old.Ver = math.MaxUint32
	case 3:
		e.New++
	case 4:
		e.At = 4095
	}
	return e
}

func anyList(r *rand.Rand, n int) []api.Entry {
	var l []api.Entry
	for range n {
		l = append(l, anyEntry(r))
	}
	return l
}

// plainCheck is Check by conditions that hold or do not, one number for each error.
func plainCheck(l []api.Entry) api.Errno {
	if len(l) < 1 || len(l) > 32 {
		return map[bool]api.Errno{true: api.ErrEmpty, false: api.ErrMany}[len(l) == 0]
	}
	seen := map[api.Loc]bool{}
	for _, e := range l {
		conditions := []bool{e.At < 0 || e.At > 4095, e.Old.Ref > 0, e.Write && e.Old.Ver == 1<<32-1, !e.Write && e.New != e.Old.Val, seen[e.At]}
		if i := slices.Index(conditions, true); i >= 0 {
			return []api.Errno{api.ErrRange, api.ErrState, api.ErrFull, api.ErrValue, api.ErrTwice}[i]
		}
		seen[e.At] = true
	}
	return api.OK
}

// P17.1: random lists.
func TestCheck(t *testing.T) {
	r := rand.New(rand.NewSource(2))
	seen := map[api.Errno]int{}
	for range 20000 {
		l := anyList(r, r.Intn(35))
		err := plainCheck(l)
		seen[err]++
		expectCheck(t, err, l...)
	}
	for _, err := range []api.Errno{api.OK, api.ErrEmpty, api.ErrMany, api.ErrRange, api.ErrState, api.ErrFull, api.ErrValue, api.ErrTwice} {
		if seen[err] < 50 {
			t.Errorf("only %d lists with error %d", seen[err], err)
		}
	}
}

// plainSort takes the least location of what is left, from front to back, until nothing is left.
func plainSort(l []api.Entry) []api.Entry {
	left := slices.Clone(l)
	var sorted []api.Entry
	for len(left) > 0 {
		least := 0
		for i, e := range left {
			if e.At < left[least].At {
				least = i
			}
		}
		sorted = append(sorted, left[least])
		left = slices.Delete(left, least, least+1)
	}
	return sorted
}

// expectSort checks what Sort returns, and that a caller may change it.
func expectSort(t *testing.T, l []api.Entry, wanted ...api.Entry) {
	t.Helper()
	same(t, "Sort", call(t, "Sort", entry.Sort, l...), wanted...)
	before := slices.Clone(l)
	first, second := entry.Sort(l...), entry.Sort(l...)
	clear(first[:cap(first)])
	same(t, "the list behind a result", l, before...)
	same(t, "another result", second, wanted...)
	first = entry.Sort(l...)
	clear(l)
	same(t, "a result behind its argument", first, wanted...)
}

// P17.1: lists with equal locations, sorted ones, reversed ones, and those of no entry and of one.
func TestSort(t *testing.T) {
	expectSort(t, nil)
	expectSort(t, []api.Entry{})
	expectSort(t, []api.Entry{written(3, 1, 1, 1)}, written(3, 1, 1, 1))
	a, b, c, d := written(3, 9, 9, 9), unwritten(1, 8, 8), written(3, 0, 0, 0), unwritten(3, 5, 5)
	expectSort(t, []api.Entry{a, b}, b, a)
	expectSort(t, []api.Entry{b, a}, b, a)
	expectSort(t, []api.Entry{a, c, d}, a, c, d)
	expectSort(t, []api.Entry{d, c, b, a}, b, d, c, a)
	expectSort(t, []api.Entry{c, a, b, b, d}, b, b, c, a, d)
	up := valid(32)
	down := slices.Clone(up)
	slices.Reverse(down)
	expectSort(t, down, up...)
	expectSort(t, slices.Clone(up), up...)
}

// P17.1: invalid locations are sorted as the numbers that they are, and other faults do not matter.
func TestSortInvalid(t *testing.T) {
	var l []api.Entry
	for _, at := range badLocations {
		l = append(l, unwritten(at, int64(at), 1))
	}
	reversed := slices.Clone(l)
	slices.Reverse(reversed)
	expectSort(t, reversed, l...)
	r := rand.New(rand.NewSource(3))
	for range 300 {
		l := anyList(r, r.Intn(100))
		for i := range l {
			if r.Intn(2) == 0 {
				l[i].At = api.Loc(r.Intn(7) - 3)
			}
		}
		expectSort(t, l, plainSort(l)...)
	}
}

// P17.1: lists of different lengths, and lists that differ in one field of one entry.
func TestSame(t *testing.T) {
	changes := []func(e *api.Entry){
		func(e *api.Entry) { e.At++ },
		func(e *api.Entry) { e.At -= 1 << 33 },
		func(e *api.Entry) { e.Old.Val++ },
		func(e *api.Entry) { e.Old.Val ^= math.MinInt64 },
		func(e *api.Entry) { e.Old.Ver++ },
		func(e *api.Entry) { e.Old.Ref++ },
		func(e *api.Entry) { e.New-- },
		func(e *api.Entry) { e.Write = !e.Write },
	}
	expectSame(t, nil, []api.Entry{}, true)
	for _, n := range []int{1, 2, 32, 33} {
		l := valid(n)
		expectSame(t, l, valid(n), true)
		expectSame(t, l, l, true)
		expectSame(t, l, valid(n-1), false)
		expectSame(t, l, slices.Concat(l, l[:1]), false)
		expectSame(t, l, nil, false)
		for i := range l {
			for _, change := range changes {
				other := valid(n)
				change(&other[i])
				expectSame(t, l, other, false)
			}
			other := valid(n)
			other[0], other[i] = other[i], other[0]
			expectSame(t, l, other, i == 0)
		}
	}
}

func expectSame(t *testing.T, a, b []api.Entry, wanted bool) {
	t.Helper()
	for _, l := range [][2][]api.Entry{{a, b}, {b, a}} {
		first, second := slices.Clone(l[0]), slices.Clone(l[1])
		if entry.Same(l[0], l[1]) != wanted {
			t.Errorf("Same of %v and %v is not %v", l[0], l[1], wanted)
		}
		same(t, "the first argument", l[0], first...)
		same(t, "the second argument", l[1], second...)
	}
}

// P17.3: lists of each kind, valid or not.
func TestKinds(t *testing.T) {
	w, u := written(3, 5, 2, 7), unwritten(4, 5, 2)
	expectKind(t, entry.Nothing, 0)
	expectKind(t, entry.Nothing, 0, []api.Entry{}...)
	expectKind(t, entry.Reading, 0, u)
	expectKind(t, entry.Reading, 0, u, u)
	expectKind(t, entry.Reading, 0, make([]api.Entry, 32)...)
	expectKind(t, entry.Reading, 0, make([]api.Entry, 33)...)
	expectKind(t, entry.Reading, 0, api.Entry{At: -1, New: 9})
	expectKind(t, entry.Single, 1, w)
	expectKind(t, entry.Single, 1, written(3, 5, 2, 5))
	expectKind(t, entry.Single, 1, written(-3, 5, math.MaxUint32, 5))
	expectKind(t, entry.General, 1, w, u)
	expectKind(t, entry.General, 1, u, w)
	expectKind(t, entry.General, 2, w, w)
	expectKind(t, entry.General, 1, append(make([]api.Entry, 40), w)...)
	expectKind(t, entry.General, 21, valid(32)...)
	want(t, "Nothing", entry.Nothing, 0)
	want(t, "Reading", entry.Reading, 1)
	want(t, "Single", entry.Single, 2)
	want(t, "General", entry.General, 3)
}

func expectKind(t *testing.T, kind, writes int, l ...api.Entry) {
	t.Helper()
	if got := call(t, "Kind", entry.Kind, l...); got != kind {
		t.Errorf("Kind of %v: %d, wanted %d", l, got, kind)
	}
	if got := call(t, "Writes", entry.Writes, l...); got != writes {
		t.Errorf("Writes of %v: %d, wanted %d", l, got, writes)
	}
}

// P17.3 and P17.4: every list of up to six entries, written or not, and long ones in random orders.
func TestKindsInAnyOrder(t *testing.T) {
	for n := range 7 {
		for bits := range 1 << n {
			l, writes := valid(n), 0
			for i := range l {
				l[i].Write = bits>>i&1 == 1
				writes += bits >> i & 1
			}
			kind := entry.General
			switch {
			case n == 0:
				kind = entry.Nothing
			case bits == 0:
				kind = entry.Reading
			case n == 1:
				kind = entry.Single
			}
			expectKind(t, kind, writes, l...)
		}
	}
	r := rand.New(rand.NewSource(4))
	for range 200 {
		l := anyList(r, r.Intn(60))
		kind, writes := entry.Kind(l...), entry.Writes(l...)
		r.Shuffle(len(l), func(i, j int) { l[i], l[j] = l[j], l[i] })
		expectKind(t, kind, writes, l...)
	}
}
