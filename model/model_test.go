package model_test

import (
	"math"
	"math/rand"
	"slices"
	"testing"

	"simulcast/api"
	"simulcast/model"
)

func word(val int64, ver uint32) api.Word { return api.Word{Val: val, Ver: ver} }

func written(at api.Loc, val int64, ver uint32, next int64) api.Entry {
	return api.Entry{At: at, Old: word(val, ver), New: next, Write: true}
}

func unwritten(at api.Loc, val int64, ver uint32) api.Entry {
	return api.Entry{At: at, Old: word(val, ver), New: val}
}

func want[T comparable](t *testing.T, what string, got, wanted T) {
	t.Helper()
	if got != wanted {
		t.Errorf("%s: %v, wanted %v", what, got, wanted)
	}
}

// same compares lists; a nil one is equal to an empty one.
func same[T comparable](t *testing.T, what string, got []T, wanted ...T) {
	t.Helper()
	if !slices.Equal(got, wanted) {
		t.Errorf("%s: %v, wanted %v", what, got, wanted)
	}
}

// farLocations are those that no model of the tests has.
var farLocations = []api.Loc{math.MinInt, math.MinInt + 1, -1 << 32, -4096, -2, -1, 1 << 32, 1<<32 + 1, math.MaxInt - 1, math.MaxInt}

// expectModel checks all that a model says about its words.
func expectModel(t *testing.T, what string, m model.Model, wanted ...api.Word) {
	t.Helper()
	want(t, what+": Len", m.Len(), len(wanted))
	same(t, what+": Words", m.Words(), wanted...)
	for i, w := range wanted {
		got, ok := m.At(api.Loc(i))
		want(t, what+": At", got, w)
		want(t, what+": At", ok, true)
	}
	n := api.Loc(len(wanted))
	for _, at := range append([]api.Loc{n, n + 1, n + 4096}, farLocations...) {
		got, ok := m.At(at)
		want(t, what+": At a location that does not exist", got, api.Word{})
		want(t, what+": At a location that does not exist", ok, false)
	}
}

// anyWords returns n words with small numbers and great ones.
func anyWords(r *rand.Rand, n int) []api.Word {
	words := make([]api.Word, n)
	for i := range words {
		words[i] = word(int64(r.Intn(4)), uint32(r.Intn(3)))
		switch r.Intn(5) {
		case 0:
			words[i].Val = int64(r.Uint64())
		case 1:
			words[i].Ver = math.MaxUint32 - uint32(r.Intn(2))
		}
	}
	return words
}

// P18.1: models of no words, of a few, and of more than a memory has.
func TestNew(t *testing.T) {
	expectModel(t, "the zero model", model.Model{})
	expectModel(t, "no words", model.New())
	expectModel(t, "an empty list", model.New([]api.Word{}...))
	expectModel(t, "a zero word", model.New(api.Word{}), api.Word{})
	expectModel(t, "extreme numbers", model.New(word(math.MinInt64, math.MaxUint32), word(math.MaxInt64, 0)), word(math.MinInt64, math.MaxUint32), word(math.MaxInt64, 0))
	r := rand.New(rand.NewSource(1))
	for _, n := range []int{1, 2, 3, 8, 100, 4095, 4096, 4097, 5000} {
		words := anyWords(r, n)
		expectModel(t, "random words", model.New(words...), words...)
	}
}

// P18.1: every Ref is cleared, whether it is a valid one or not; Val and Ver stay.
func TestRefs(t *testing.T) {
	r := rand.New(rand.NewSource(2))
	for _, ref := range []uint32{1, 1 << 24, 1<<24 + 1, 72<<24 + api.MaxSeq, 73 << 24, 1 << 31, math.MaxUint32} {
		expectModel(t, "one word", model.New(api.Word{Val: 5, Ver: 2, Ref: ref}), word(5, 2))
		words := anyWords(r, 20)
		owned := slices.Clone(words)
		for i := range owned {
			if r.Intn(2) == 0 {
				owned[i].Ref = ref
			}
		}
		expectModel(t, "random words", model.New(owned...), words...)
	}
}

// P18.1 and the rule 'Memory': New leaves its arguments and what is behind them as they are, and a caller may change them.
func TestWordsThatArePassed(t *testing.T) {
	whole := []api.Word{{Val: 5, Ver: 2, Ref: 9}, {Val: 6}, {Val: 7, Ref: 1<<24 + 1}, {Val: 77, Ref: 3}, {Val: 78, Ref: 4}}
	before := slices.Clone(whole)
	m := model.New(whole[:3]...)
	n := model.New(whole[:3]...)
	same(t, "the words", whole, before...)
	clear(whole)
	expectModel(t, "the model", m, word(5, 2), word(6, 0), word(7, 0))
	expectModel(t, "the other model", n, word(5, 2), word(6, 0), word(7, 0))
}

// P18.1 and the rule 'Memory': a caller may change what Words returns.
func TestWordsThatAreReturned(t *testing.T) {
	m := model.New(word(5, 2), word(6, 0), word(7, 1))
	first, second := m.Words(), m.Words()
	first[0], first[2].Ref = word(50, 20), 9
	_ = append(first[:1], word(60, 10))
	clear(first[:cap(first)])
	same(t, "other Words", second, word(5, 2), word(6, 0), word(7, 1))
	expectModel(t, "the model", m, word(5, 2), word(6, 0), word(7, 1))

	other := model.New(second...)
	clear(second)
	expectModel(t, "a model of the words of another one", other, word(5, 2), word(6, 0), word(7, 1))
	_ = append(m.Words(), word(8, 8))
	expectModel(t, "the model", m, word(5, 2), word(6, 0), word(7, 1))
}

// expectHolds checks what Holds reports, and that it changes neither the model nor the entries nor what is behind these.
func expectHolds(t *testing.T, m model.Model, wanted bool, l ...api.Entry) {
	t.Helper()
	words := m.Words()
	whole := append(slices.Clone(l), written(77, 7, 7, 7), unwritten(76, 6, 6))
	before := slices.Clone(whole)
	if m.Holds(whole[:len(l)]...) != wanted {
		t.Errorf("Holds of %v on %v is not %v", l, words, wanted)
	}
	same(t, "the entries behind Holds", whole, before...)
	same(t, "the words behind Holds", m.Words(), words...)
}

// P18.2: words that differ in Val only or in Ver only, at each place.
func TestHolds(t *testing.T) {
	m := model.New(word(5, 2), word(6, 0), api.Word{Val: 7, Ver: 1, Ref: 1<<24 + 1}, word(5, 2), word(math.MinInt64, math.MaxUint32))
	all := []api.Entry{unwritten(0, 5, 2), written(1, 6, 0, 9), written(2, 7, 1, 7), unwritten(3, 5, 2), unwritten(4, math.MinInt64, math.MaxUint32)}
	expectHolds(t, m, true, all...)
	for i := range all {
		expectHolds(t, m, true, all[i])
		expectHolds(t, m, true, all[:i]...)
		expectHolds(t, m, true, all[i:]...)
		for _, change := range []func(e *api.Entry){
			func(e *api.Entry) { e.Old.Val++ },
			func(e *api.Entry) { e.Old.Val-- },
			func(e *api.Entry) { e.Old.Val += 1 << 32 },
			func(e *api.Entry) { e.Old.Ver++ },
			func(e *api.Entry) { e.Old.Ver-- },
			func(e *api.Entry) { e.Old.Ver += 1 << 31 },
			func(e *api.Entry) { e.At += 5 },
			func(e *api.Entry) { e.At -= 5 },
		} {
			l := slices.Clone(all)
			change(&l[i])
			expectHolds(t, m, false, l...)
			expectHolds(t, m, false, l[i])
		}
	}
}

// P18.2: no entries match every model, and a model of no words matches nothing else.
func TestHoldsOfNoEntries(t *testing.T) {
	for _, m := range []model.Model{{}, model.New(), model.New(word(5, 2)), model.New(make([]api.Word, 5000)...)} {
		expectHolds(t, m, true)
		expectHolds(t, m, true, []api.Entry{}...)
	}
	for _, at := range append([]api.Loc{0, 1, 4095, 4096}, farLocations...) {
		expectHolds(t, model.Model{}, false, unwritten(at, 0, 0))
		expectHolds(t, model.Model{}, false, written(at, 0, 0, 0))
	}
}

// P18.2: entries that entry.Check does not accept, at locations that the model has.
func TestHoldsOfInvalidEntries(t *testing.T) {
	m := model.New(append(make([]api.Word, 4999), word(5, math.MaxUint32))...)
	owned := api.Entry{At: 1, Old: api.Word{Ref: 1<<24 + 1}}
	expectHolds(t, m, true, owned)
	owned.Old.Ref = math.MaxUint32
	expectHolds(t, m, true, owned)
	owned.Old.Val = 1
	expectHolds(t, m, false, owned)
	expectHolds(t, m, true, api.Entry{At: 1, New: 9})
	expectHolds(t, m, false, api.Entry{At: 1, Old: word(9, 0), New: 0})
	expectHolds(t, m, true, written(4999, 5, math.MaxUint32, 6))
	expectHolds(t, m, false, written(4999, 5, 0, 6))
	expectHolds(t, m, true, unwritten(4096, 0, 0))
	expectHolds(t, m, false, unwritten(5000, 0, 0))
	expectHolds(t, m, true, make([]api.Entry, 33)...)
	expectHolds(t, m, false, append(make([]api.Entry, 100), unwritten(0, 1, 0))...)
	for _, at := range farLocations {
		expectHolds(t, m, false, unwritten(at, 0, 0))
		expectHolds(t, m, false, unwritten(0, 0, 0), api.Entry{At: at})
	}
}

// P18.2: entries with the same location are held against the model one by one.
func TestHoldsOfRepeatedLocations(t *testing.T) {
	m := model.New(word(5, 2), word(6, 0))
	expectHolds(t, m, true, written(0, 5, 2, 9), written(0, 5, 2, 8), unwritten(0, 5, 2))
	expectHolds(t, m, false, written(0, 5, 2, 9), unwritten(0, 9, 3))
	expectHolds(t, m, false, unwritten(0, 9, 3), written(0, 5, 2, 9))
	expectHolds(t, m, true, unwritten(1, 6, 0), unwritten(0, 5, 2), unwritten(1, 6, 0))
	expectHolds(t, m, false, unwritten(1, 6, 0), unwritten(0, 5, 2), unwritten(1, 6, 1))
}

// plainHolds is Holds on a table of words by location.
func plainHolds(words []api.Word, l []api.Entry) bool {
	table := map[api.Loc][2]int64{}
	for i, w := range words {
		table[api.Loc(i)] = [2]int64{w.Val, int64(w.Ver)}
	}
	for _, e := range l {
		if w, ok := table[e.At]; !ok || w != [2]int64{e.Old.Val, int64(e.Old.Ver)} {
			return false
		}
	}
	return true
}

// P18.2: random entries, valid or not.
func TestHoldsOfRandomEntries(t *testing.T) {
	r := rand.New(rand.NewSource(3))
	held := 0
	for range 5000 {
		words := anyWords(r, 1+r.Intn(9))
		var l []api.Entry
		for range r.Intn(9) {
			at := r.Intn(len(words))
			e := api.Entry{At: api.Loc(at), Old: words[at], New: int64(r.Intn(3)), Write: r.Intn(2) == 0}
			switch r.Intn(30) {
			case 0:
				e.Old.Val++
			case 1:
				e.Old.Ver++
			case 2:
				e.Old.Ref = r.Uint32()
			case 3:
				e.At += api.Loc(r.Intn(9) - 4)
			}
			l = append(l, e)
		}
		wanted := plainHolds(words, l)
		if wanted {
			held++
		}
		expectHolds(t, model.New(words...), wanted, l...)
	}
	if held < 1000 || held > 4000 {
		t.Errorf("%d of the lists match", held)
	}
}
