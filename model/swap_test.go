package model_test

import (
	"math"
	"math/rand"
	"slices"
	"testing"

	"simulcast/api"
	"simulcast/entry"
	"simulcast/model"
)

// expectSwap checks what Swap returns, and that it changes neither the model nor the entries nor what is behind these.
func expectSwap(t *testing.T, m model.Model, done bool, err api.Errno, wanted []api.Word, l ...api.Entry) model.Model {
	t.Helper()
	words := m.Words()
	whole := append(slices.Clone(l), written(77, 7, 7, 7), unwritten(76, 6, 6))
	before := slices.Clone(whole)
	next, ok, e := m.Swap(whole[:len(l)]...)
	if ok != done || e != err {
		t.Errorf("Swap %s: %v and %d, wanted %v and %d", entry.Text(l...), ok, e, done, err)
	}
	same(t, "Swap "+entry.Text(l...), next.Words(), wanted...)
	same(t, "the entries behind Swap", whole, before...)
	clear(whole)
	same(t, "the model behind Swap", m.Words(), words...)
	changed := next.Words()
	clear(changed)
	same(t, "Swap "+entry.Text(l...)+" when its entries and Words have changed", next.Words(), wanted...)
	return next
}

// expectSame checks that Swap returns the unchanged model, and false.
func expectSame(t *testing.T, m model.Model, err api.Errno, l ...api.Entry) {
	t.Helper()
	expectSwap(t, m, false, err, m.Words(), l...)
}

// Example 1.
func TestExample(t *testing.T) {
	m := model.New(word(5, 0), word(6, 0), word(7, 0))
	l := []api.Entry{written(0, 5, 0, 1), unwritten(2, 7, 0)}
	next := expectSwap(t, m, true, api.OK, []api.Word{word(1, 1), word(6, 0), word(7, 0)}, l...)
	expectModel(t, "the new model", next, word(1, 1), word(6, 0), word(7, 0))
	expectSame(t, next, api.OK, l...)
	expectModel(t, "the model", m, word(5, 0), word(6, 0), word(7, 0))
}

// P18.3: every location of a small model, written or not, with values and versions at both ends.
func TestSwap(t *testing.T) {
	words := []api.Word{word(5, 0), word(math.MinInt64, math.MaxUint32-1), word(-1, math.MaxUint32), word(math.MaxInt64, 7)}
	m := model.New(words...)
	for bits := range 1 << 4 {
		var l []api.Entry
		wanted := slices.Clone(words)
		for i, w := range words {
			if i == 2 || bits>>i&1 == 0 {
				l = append(l, unwritten(api.Loc(i), w.Val, w.Ver))
			} else {
				l = append(l, written(api.Loc(i), w.Val, w.Ver, int64(100+i)))
				wanted[i] = word(int64(100+i), w.Ver+1)
			}
		}
		expectModel(t, "the swapped model", expectSwap(t, m, true, api.OK, wanted, l...), wanted...)
		slices.Reverse(l)
		expectSwap(t, m, true, api.OK, wanted, l...)
	}
	expectSwap(t, m, true, api.OK, []api.Word{word(5, 1), words[1], words[2], words[3]}, written(0, 5, 0, 5))
	expectSwap(t, m, true, api.OK, []api.Word{words[0], word(0, math.MaxUint32), words[2], words[3]}, written(1, math.MinInt64, math.MaxUint32-1, 0))
}

// P18.3: models with words that had a Ref.
func TestSwapOfOwnedWords(t *testing.T) {
	m := model.New(api.Word{Val: 5, Ver: 2, Ref: 1<<24 + 1}, api.Word{Val: 6, Ref: 9})
	expectSwap(t, m, true, api.OK, []api.Word{word(8, 3), word(6, 0)}, written(0, 5, 2, 8), unwritten(1, 6, 0))
}

// P18.3: an entry that differs in Val only or in Ver only, at each place of the list.
func TestSwapMismatch(t *testing.T) {
	m := model.New(word(5, 2), word(6, 0), word(7, 9), word(8, math.MaxUint32))
	all := []api.Entry{written(2, 7, 9, 1), unwritten(3, 8, math.MaxUint32), written(0, 5, 2, 1), unwritten(1, 6, 0)}
	for i := range all {
		for _, by := range []int64{-1, 1, 1 << 32} {
			l := slices.Clone(all)
			l[i].Old.Val += by
			if !l[i].Write {
				l[i].New += by
			}
			expectSame(t, m, api.OK, l...)
			expectSame(t, m, api.OK, l[i])
		}
		l := slices.Clone(all)
		l[i].Old.Ver ^= 1 << 20
		expectSame(t, m, api.OK, l...)
		expectSame(t, m, api.OK, l[i])
	}
	expectSwap(t, m, true, api.OK, []api.Word{word(1, 3), word(6, 0), word(1, 10), word(8, math.MaxUint32)}, all...)
}

// fault is a list that entry.Check does not accept, and the error that it returns.
type fault struct {
	l   []api.Entry
	err api.Errno
}

// faults returns a list for each error of Check. All their locations from 0 on, but no others, are below n.
func faults(n api.Loc) []fault {
	l := []fault{
		{nil, api.ErrEmpty},
		{[]api.Entry{}, api.ErrEmpty},
		{make([]api.Entry, 33), api.ErrMany},
		{[]api.Entry{unwritten(4096, 0, 0)}, api.ErrRange},
		{[]api.Entry{{At: n - 1, Old: api.Word{Ref: 1<<24 + 1}}}, api.ErrState},
		{[]api.Entry{{At: n - 1, Old: api.Word{Ref: 5}, Write: true}}, api.ErrState},
		{[]api.Entry{written(n-1, 0, math.MaxUint32, 0)}, api.ErrFull},
		{[]api.Entry{{At: n - 1, New: 1}}, api.ErrValue},
		{[]api.Entry{unwritten(n-1, 0, 0), unwritten(n-1, 0, 0)}, api.ErrTwice},
		{[]api.Entry{written(n-1, 0, 0, 1), unwritten(n-1, 1, 1)}, api.ErrTwice},
	}
	for _, at := range farLocations {
		l = append(l, fault{[]api.Entry{unwritten(at, 0, 0)}, api.ErrRange})
	}
	return l
}

// P18.3: every error of Check, whether the entries match or not, alone and among others; models of no words, too.
func TestSwapOfInvalidLists(t *testing.T) {
	for _, size := range []int{0, 1, 2, 40, 4096, 5000} {
		m := model.New(make([]api.Word, size)...)
		for _, f := range faults(max(api.Loc(min(size, 4096)), 1)) {
			expectSame(t, m, f.err, f.l...)
			if size < 40 || len(f.l) == 0 {
				continue
			}
			expectSame(t, m, f.err, append([]api.Entry{unwritten(3, 0, 0), written(4, 0, 0, 9)}, f.l...)...)
			expectSame(t, m, f.err, append([]api.Entry{unwritten(3, 5, 5), written(4, 5, 5, 9)}, f.l...)...)
			expectSame(t, m, f.err, append(slices.Clone(f.l), unwritten(3, 0, 0), written(4, 5, 0, 9))...)
		}
	}
	full := model.New(word(5, math.MaxUint32))
	expectSame(t, full, api.ErrFull, written(0, 5, math.MaxUint32, 6))
	expectSwap(t, full, true, api.OK, full.Words(), unwritten(0, 5, math.MaxUint32))
	large := model.New(make([]api.Word, 5000)...)
	expectSame(t, large, api.ErrRange, written(4096, 0, 0, 6))
}

// P18.3: a location that the model does not have, at each place of a list.
func TestSwapOfMissingLocations(t *testing.T) {
	expectSame(t, model.Model{}, api.ErrArg, unwritten(0, 0, 0))
	expectSame(t, model.Model{}, api.ErrArg, written(4095, 0, 0, 1))
	m := model.New(word(5, 0), word(6, 0), word(7, 0))
	for _, at := range []api.Loc{3, 4, 4095} {
		for _, e := range []api.Entry{unwritten(at, 0, 0), written(at, 0, 0, 1), written(at, 5, 0, 1)} {
			expectSame(t, m, api.ErrArg, e)
			for i := range 4 {
				matching := []api.Entry{written(0, 5, 0, 1), unwritten(1, 6, 0), written(2, 7, 0, 3)}
				expectSame(t, m, api.ErrArg, slices.Insert(matching, i, e)...)
				other := []api.Entry{written(0, 9, 0, 1), unwritten(1, 6, 9), written(2, 7, 1, 3)}
				expectSame(t, m, api.ErrArg, slices.Insert(other, i, e)...)
			}
		}
	}
}

// P18.3: an error of Check comes ahead of a missing location, on whichever side of it.
func TestFirstErrorOfSwap(t *testing.T) {
	missing := []api.Entry{written(60, 0, 0, 1)}
	for _, size := range []int{0, 1, 60} {
		m := model.New(make([]api.Word, size)...)
		for _, f := range faults(max(api.Loc(size), 1)) {
			if len(f.l) == 0 {
				continue
			}
			expectSame(t, m, f.err, slices.Concat(f.l, missing)...)
			expectSame(t, m, f.err, slices.Concat(missing, f.l)...)
		}
		expectSame(t, m, api.ErrArg, missing...)
		expectSame(t, m, api.ErrTwice, written(60, 0, 0, 1), unwritten(60, 0, 0))
	}
}

// P18.3: a list of 32 entries.
func TestSwapOfAllEntries(t *testing.T) {
	words, wanted := make([]api.Word, 40), make([]api.Word, 40)
	var l []api.Entry
	for i := range words {
		words[i] = word(int64(i), uint32(i))
		wanted[i] = words[i]
		if i >= 4 && i < 36 {
			wanted[i] = word(int64(-i), uint32(i+1))
			l = append(l, written(api.Loc(i), int64(i), uint32(i), int64(-i)))
		}
	}
	m := model.New(words...)
	expectSwap(t, m, true, api.OK, wanted, l...)
	for i := range l {
		other := slices.Clone(l)
		other[i].Old.Ver++
		expectSame(t, m, api.OK, other...)
	}
}

// anySwap returns a valid list that matches the words, of locations from low on and below high.
func anySwap(r *rand.Rand, words []api.Word, low, high int) []api.Entry {
	var l []api.Entry
	for _, i := range r.Perm(high - low)[:1+r.Intn(min(high-low, 32))] {
		at := low + i
		w := words[at]
		e := unwritten(api.Loc(at), w.Val, w.Ver)
		if r.Intn(2) == 0 && w.Ver != math.MaxUint32 {
			e = written(api.Loc(at), w.Val, w.Ver, int64(r.Intn(4)))
		}
		l = append(l, e)
	}
	return l
}

// plainSwap returns the words after the swap of a list that matches them.
func plainSwap(words []api.Word, l []api.Entry) []api.Word {
	next := slices.Clone(words)
	for i := range next {
		for _, e := range l {
			if int(e.At) == i && e.Write {
				next[i].Val = e.New
				next[i].Ver++
			}
		}
	}
	return next
}

// P18.3 and P18.4: chains of random swaps. A list that does not match changes nothing, and a swap that has been done
// matches again only if it writes nothing.
func TestRandomSwaps(t *testing.T) {
	r := rand.New(rand.NewSource(4))
	for range 200 {
		words := anyWords(r, 1+r.Intn(50))
		models := []model.Model{model.New(words...)}
		states := [][]api.Word{words}
		for range 20 {
			m := models[len(models)-1]
			l := anySwap(r, words, 0, len(words))
			if r.Intn(3) == 0 {
				other := slices.Clone(l)
				other[r.Intn(len(l))].Old.Ver ^= 1 << 4
				expectSame(t, m, entry.Check(other...), other...)
			}
			next := plainSwap(words, l)
			swapped := expectSwap(t, m, true, api.OK, next, l...)
			expectRepeated(t, swapped, l...)
			words = next
			models, states = append(models, swapped), append(states, words)
		}
		for i, m := range models {
			same(t, "an earlier model", m.Words(), states[i]...)
		}
	}
}

// expectRepeated swaps the list on the model that it has led to.
func expectRepeated(t *testing.T, m model.Model, l ...api.Entry) {
	t.Helper()
	expectSwap(t, m, entry.Writes(l...) == 0, api.OK, m.Words(), l...)
}

// P18.4: a successful swap that writes fails if it is repeated, also if it writes the value that is there.
func TestRepeatedSwap(t *testing.T) {
	m := model.New(word(5, 0), word(6, math.MaxUint32-1), word(7, 3))
	for _, l := range [][]api.Entry{
		{written(0, 5, 0, 5)},
		{written(0, 5, 0, 6)},
		{written(1, 6, math.MaxUint32-1, 6)},
		{unwritten(1, 6, math.MaxUint32-1), written(2, 7, 3, 7), unwritten(0, 5, 0)},
		{written(1, 6, math.MaxUint32-1, 6), written(2, 7, 3, 7), written(0, 5, 0, 5)},
	} {
		next := expectSwap(t, m, true, api.OK, plainSwap(m.Words(), l), l...)
		expectSame(t, next, api.OK, l...)
		expectSwap(t, m, true, api.OK, next.Words(), l...)
	}
}

// P18.4: a swap that writes no entry changes nothing, and can be repeated.
func TestSwapWithoutWrites(t *testing.T) {
	m := model.New(word(5, 0), word(6, math.MaxUint32), word(-7, 3))
	for _, l := range [][]api.Entry{
		{unwritten(0, 5, 0)},
		{unwritten(1, 6, math.MaxUint32), unwritten(0, 5, 0)},
		{unwritten(2, -7, 3), unwritten(1, 6, math.MaxUint32), unwritten(0, 5, 0)},
	} {
		next := expectSwap(t, m, true, api.OK, m.Words(), l...)
		expectSwap(t, next, true, api.OK, m.Words(), l...)
	}
	expectSame(t, m, api.OK, unwritten(0, 5, 1))
	expectSame(t, m, api.OK, unwritten(0, 6, 0))
}

// P18.4: two swaps with disjoint locations lead to the same model in both orders.
func TestDisjointSwaps(t *testing.T) {
	r := rand.New(rand.NewSource(5))
	for range 500 {
		words := anyWords(r, 2+r.Intn(40))
		middle := 1 + r.Intn(len(words)-1)
		m := model.New(words...)
		a, b := anySwap(r, words, 0, middle), anySwap(r, words, middle, len(words))
		wanted := plainSwap(plainSwap(words, a), b)
		first := expectSwap(t, m, true, api.OK, plainSwap(words, a), a...)
		expectSwap(t, first, true, api.OK, wanted, b...)
		second := expectSwap(t, m, true, api.OK, plainSwap(words, b), b...)
		expectSwap(t, second, true, api.OK, wanted, a...)
		other := slices.Clone(b)
		other[0].Old.Ver ^= 1 << 4
		expectSame(t, first, entry.Check(other...), other...)
		expectSame(t, m, entry.Check(other...), other...)
	}
}

// The rule 'Values': several swaps of one model do not affect one another.
func TestModelsAreValues(t *testing.T) {
	m := model.New(word(5, 0), word(6, 0), word(7, 0))
	one := expectSwap(t, m, true, api.OK, []api.Word{word(1, 1), word(6, 0), word(7, 0)}, written(0, 5, 0, 1))
	two := expectSwap(t, m, true, api.OK, []api.Word{word(2, 1), word(6, 0), word(7, 0)}, written(0, 5, 0, 2))
	three := expectSwap(t, one, true, api.OK, []api.Word{word(1, 1), word(3, 1), word(7, 0)}, written(1, 6, 0, 3))
	kept, _, _ := one.Swap(written(0, 5, 0, 9))
	reading, _, _ := one.Swap(unwritten(0, 1, 1))
	four := expectSwap(t, reading, true, api.OK, []api.Word{word(4, 2), word(6, 0), word(7, 0)}, written(0, 1, 1, 4))
	expectModel(t, "the model", m, word(5, 0), word(6, 0), word(7, 0))
	expectModel(t, "the first", one, word(1, 1), word(6, 0), word(7, 0))
	expectModel(t, "the second", two, word(2, 1), word(6, 0), word(7, 0))
	expectModel(t, "the third", three, word(1, 1), word(3, 1), word(7, 0))
	expectModel(t, "the kept one", kept, word(1, 1), word(6, 0), word(7, 0))
	expectModel(t, "the one that was only read", reading, word(1, 1), word(6, 0), word(7, 0))
	expectModel(t, "the fourth", four, word(4, 2), word(6, 0), word(7, 0))
}

// A composition (layer 17) leads to the values to which its two parts lead one after the other.
func TestComposition(t *testing.T) {
	r := rand.New(rand.NewSource(6))
	for range 300 {
		words := anyWords(r, 1+r.Intn(12))
		a := anySwap(r, words, 0, len(words))
		b := anySwap(r, plainSwap(words, a), 0, len(words))
		both, e := entry.Merge(a, b)
		if e != api.OK {
			t.Fatalf("Merge of %s and %s: %d", entry.Text(a...), entry.Text(b...), e)
		}
		m, ok, e := model.New(words...).Swap(both...)
		if !ok || e != api.OK {
			t.Fatalf("Swap %s: %v and %d", entry.Text(both...), ok, e)
		}
		for i, w := range plainSwap(plainSwap(words, a), b) {
			got, _ := m.At(api.Loc(i))
			want(t, "a value behind the composition", got.Val, w.Val)
		}
	}
}
