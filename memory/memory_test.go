package memory_test

import (
	"math"
	"testing"

	"simulcast/api"
	"simulcast/history"
	"simulcast/memory"
	"simulcast/view"
)

func val(v int64) api.Word { return api.Word{Val: v} }

// fresh returns a memory with the given threads and with addresses whose initial words are 0.
func fresh(t *testing.T, threads, places int) memory.Memory {
	t.Helper()
	m, e := memory.New(threads, make([]api.Word, places)...)
	if e != api.OK {
		t.Fatal("New:", e)
	}
	return m
}

func load(t *testing.T, m memory.Memory, thread int, at api.Loc, acquire bool, choice int) (memory.Memory, api.Word) {
	t.Helper()
	n, w, e := m.Load(thread, at, acquire, choice)
	if e != api.OK {
		t.Fatalf("Load by %d at %d: %d", thread, at, e)
	}
	return n, w
}

func store(t *testing.T, m memory.Memory, thread int, at api.Loc, v int64, release bool) memory.Memory {
	t.Helper()
	n, e := m.Store(thread, at, val(v), release)
	if e != api.OK {
		t.Fatalf("Store by %d at %d: %d", thread, at, e)
	}
	return n
}

// loads returns the values that the choices from 0 up select for a thread, as many as it may read.
func loads(t *testing.T, m memory.Memory, thread int, at api.Loc) []int64 {
	t.Helper()
	h, _ := m.History(at)
	var l []int64
	for choice := range h.Len() - m.Seen(thread).At(at) {
		_, w := load(t, m, thread, at, false, choice)
		l = append(l, w.Val)
	}
	return l
}

func sameHistories(a, b history.History) bool {
	if a.Len() != b.Len() {
		return false
	}
	for i := range a.Len() {
		x, _ := a.At(i)
		y, _ := b.At(i)
		if x.Word != y.Word || x.Thread != y.Thread || !view.Same(x.View, y.View) {
			return false
		}
	}
	return true
}

// same reports whether two memories have the same threads, views, addresses and messages.
func same(a, b memory.Memory) bool {
	threads, places := a.Size()
	if n, k := b.Size(); n != threads || k != places {
		return false
	}
	for i := range threads {
		if !view.Same(a.Seen(i+1), b.Seen(i+1)) {
			return false
		}
	}
	for i := range places {
		x, _ := a.History(api.Loc(i))
		y, _ := b.History(api.Loc(i))
		if !sameHistories(x, y) {
			return false
		}
	}
	return true
}

// expect compares what a thread knows of the addresses from 0 up.
func expect(t *testing.T, what string, v view.View, wanted ...int) {
	t.Helper()
	for l, n := range wanted {
		if v.At(api.Loc(l)) != n {
			t.Errorf("%s: %d at address %d, wanted %d", what, v.At(api.Loc(l)), l, n)
		}
	}
	for _, l := range v.Locs() {
		if int(l) >= len(wanted) {
			t.Errorf("%s: %d at address %d", what, v.At(l), l)
		}
	}
}

// P4.1: the size, the initial messages and the initial views.
func TestNew(t *testing.T) {
	words := []api.Word{{Val: 3, Ver: 4, Ref: 5}, {Val: math.MinInt64, Ver: math.MaxUint32, Ref: math.MaxUint32}, {}}
	given := append([]api.Word{}, words...)
	m, e := memory.New(3, given...)
	threads, places := m.Size()
	if e != api.OK || threads != 3 || places != 3 {
		t.Fatalf("New: %d threads, %d addresses, error %d", threads, places, e)
	}
	given[0] = val(99)
	for i, w := range words {
		h, ok := m.History(api.Loc(i))
		if !ok || !sameHistories(h, history.New(w)) {
			t.Errorf("address %d has the history %v", i, h)
		}
		if x, ok := m.Last(api.Loc(i)); !ok || x != w {
			t.Errorf("Last(%d) = %v, %v", i, x, ok)
		}
	}
	for i := range 3 {
		expect(t, "initial view", m.Seen(i+1))
	}
}

// P4.1: the limits of New, in their order.
func TestNewErrors(t *testing.T) {
	for _, x := range []struct {
		threads, places int
		e               api.Errno
	}{
		{math.MinInt, 1, api.ErrRange}, {-1, 1, api.ErrRange}, {0, 1, api.ErrRange}, {0, 0, api.ErrRange},
		{9, 0, api.ErrRange}, {9, 4097, api.ErrRange}, {math.MaxInt, 1, api.ErrRange},
		{1, 0, api.ErrEmpty}, {8, 0, api.ErrEmpty},
		{1, 4097, api.ErrMany}, {8, 5000, api.ErrMany},
		{1, 1, api.OK}, {8, 1, api.OK}, {1, 4096, api.OK}, {8, 4096, api.OK},
	} {
		m, e := memory.New(x.threads, make([]api.Word, x.places)...)
		if e != x.e {
			t.Errorf("New of %d threads and %d words: %d, wanted %d", x.threads, x.places, e, x.e)
		}
		if e != api.OK {
			x.threads, x.places = 0, 0
		}
		if threads, places := m.Size(); threads != x.threads || places != x.places {
			t.Errorf("error %d: %d threads and %d addresses", e, threads, places)
		}
	}
}

// P4.1: threads and addresses that do not exist.
func TestQueriesOutOfRange(t *testing.T) {
	m := fresh(t, 2, 2)
	m = store(t, m, 2, 1, 7, true)
	for _, thread := range []int{math.MinInt, -1, 0, 3, 8, math.MaxInt} {
		expect(t, "no thread", m.Seen(thread))
	}
	for _, at := range []api.Loc{math.MinInt, -1, 2, 4096, math.MaxInt} {
		if w, ok := m.Last(at); ok || w != (api.Word{}) {
			t.Errorf("Last(%d) = %v, %v", at, w, ok)
		}
		if h, ok := m.History(at); ok || h.Len() != 0 {
			t.Errorf("History(%d) has %d messages, %v", at, h.Len(), ok)
		}
	}
}

// fails runs the four operations, which must all return the error and leave the memory as it is.
func fails(t *testing.T, m memory.Memory, thread int, at api.Loc, wanted api.Errno) {
	t.Helper()
	n, w, e := m.Load(thread, at, true, 0)
	if e != wanted || w != (api.Word{}) || !same(m, n) {
		t.Errorf("Load by %d at %d: %v, %d", thread, at, w, e)
	}
	n, e = m.Store(thread, at, val(4), true)
	if e != wanted || !same(m, n) {
		t.Errorf("Store by %d at %d: %d", thread, at, e)
	}
	n, w, e = m.Look(thread, at)
	if e != wanted || w != (api.Word{}) || !same(m, n) {
		t.Errorf("Look by %d at %d: %v, %d", thread, at, w, e)
	}
	n, w, ok, e := m.Swap(thread, at, val(3), val(4))
	if e != wanted || ok || w != (api.Word{}) || !same(m, n) {
		t.Errorf("Swap by %d at %d: %v, %v, %d", thread, at, w, ok, e)
	}
}

func TestOperationErrors(t *testing.T) {
	m, _ := memory.New(2, val(3), val(3))
	m = store(t, m, 1, 0, 3, true)
	for _, thread := range []int{math.MinInt, -1, 0, 3, math.MaxInt} {
		for _, at := range []api.Loc{-1, 0, 1, 2} {
			fails(t, m, thread, at, api.ErrRange)
		}
	}
	for _, at := range []api.Loc{math.MinInt, -1, 2, 4096, math.MaxInt} {
		fails(t, m, 1, at, api.ErrArg)
		fails(t, m, 2, at, api.ErrArg)
	}
	fails(t, memory.Memory{}, 1, 0, api.ErrRange)
	fails(t, memory.Memory{}, 0, 0, api.ErrRange)
	if threads, places := (memory.Memory{}).Size(); threads != 0 || places != 0 {
		t.Errorf("the zero memory has %d threads and %d addresses", threads, places)
	}
}

// P4.2: a load selects among the messages from the thread's view on, by any choice.
func TestLoadSelects(t *testing.T) {
	m := fresh(t, 2, 2)
	for v := int64(1); v <= 4; v++ {
		m = store(t, m, 1, 1, v, false)
	}
	for _, x := range []struct {
		choice int
		wanted int64
	}{{0, 4}, {1, 3}, {2, 2}, {3, 1}, {4, 0}, {5, 4}, {9, 0}, {-1, 4}, {math.MinInt, 4}, {math.MaxInt, 4 - math.MaxInt%5}} {
		n, w := load(t, m, 2, 1, false, x.choice)
		if w != val(x.wanted) {
			t.Errorf("choice %d loads %v, wanted %d", x.choice, w, x.wanted)
		}
		expect(t, "reader", n.Seen(2), 0, int(x.wanted))
		expect(t, "other thread", n.Seen(1), 0, 4)
	}
	n, _ := load(t, m, 2, 1, false, 2)
	if l := loads(t, n, 2, 1); len(l) != 3 || l[0] != 4 || l[1] != 3 || l[2] != 2 {
		t.Errorf("after a load of 2 the choices load %v", l)
	}
	if _, w := load(t, n, 2, 1, false, 3); w.Val != 4 {
		t.Errorf("choice 3 of three messages loads %d", w.Val)
	}
}

// P4.2: only an acquiring load joins the views, and Look always does.
func TestOnlyAcquireJoins(t *testing.T) {
	m := fresh(t, 3, 3)
	m = store(t, m, 1, 0, 7, false)
	m = store(t, m, 1, 1, 1, true)
	m, _ = load(t, m, 3, 2, false, 0)
	relaxed, _ := load(t, m, 2, 1, false, 0)
	expect(t, "relaxed load", relaxed.Seen(2), 0, 1)
	acquired, _ := load(t, m, 2, 1, true, 0)
	expect(t, "acquiring load", acquired.Seen(2), 1, 1)
	old, w := load(t, m, 2, 1, true, 1)
	expect(t, "acquiring load of the initial message", old.Seen(2))
	if w.Val != 0 {
		t.Errorf("choice 1 loads %d", w.Val)
	}
	looked, w, e := m.Look(2, 1)
	if e != api.OK || w.Val != 1 {
		t.Errorf("Look: %v, %d", w, e)
	}
	expect(t, "look", looked.Seen(2), 1, 1)
	for _, n := range []memory.Memory{relaxed, acquired, old, looked} {
		expect(t, "author", n.Seen(1), 1, 1)
		expect(t, "bystander", n.Seen(3))
		h, _ := n.History(1)
		if h.Len() != 2 {
			t.Errorf("a read leaves %d messages", h.Len())
		}
	}
}

// P4.2: joining keeps what the reader knew already, at the address and elsewhere.
func TestJoinKeepsTheNewer(t *testing.T) {
	m := fresh(t, 3, 3)
	m = store(t, m, 1, 0, 5, false)
	m = store(t, m, 1, 2, 1, true)
	m = store(t, m, 2, 0, 6, false)
	m = store(t, m, 2, 1, 2, false)
	n, _, _ := m.Look(2, 2)
	expect(t, "reader", n.Seen(2), 2, 1, 1)
}

// P4.3: the message, its author and its view.
func TestStore(t *testing.T) {
	m := fresh(t, 2, 3)
	m = store(t, m, 2, 2, 8, false)
	m, _ = load(t, m, 1, 2, false, 0)
	word := api.Word{Val: -1, Ver: 7, Ref: 9}
	for _, release := range []bool{false, true} {
		n, e := m.Store(1, 1, word, release)
		h, _ := n.History(1)
		if e != api.OK || h.Len() != 2 || h.Last().Word != word || h.Last().Thread != 1 {
			t.Fatalf("Store: %d messages, the last %v, error %d", h.Len(), h.Last(), e)
		}
		expect(t, "author", n.Seen(1), 0, 1, 1)
		expect(t, "other thread", n.Seen(2), 0, 0, 1)
		if release {
			expect(t, "message", h.Last().View, 0, 1, 1)
		} else {
			expect(t, "message", h.Last().View, 0, 1)
		}
		if w, ok := n.Last(1); !ok || w != word {
			t.Errorf("Last is %v, %v", w, ok)
		}
	}
}

// P4.3: a thread that knows only old messages appends at the end all the same, and then knows its own.
func TestStoreGoesToTheEnd(t *testing.T) {
	m := fresh(t, 2, 1)
	for v := int64(1); v <= 3; v++ {
		m = store(t, m, 1, 0, v, true)
	}
	m = store(t, m, 2, 0, 9, true)
	expect(t, "author", m.Seen(2), 4)
	if l := loads(t, m, 2, 0); len(l) != 1 || l[0] != 9 {
		t.Errorf("the author loads %v", l)
	}
	if l := loads(t, m, 1, 0); len(l) != 2 || l[0] != 9 || l[1] != 3 {
		t.Errorf("the other thread loads %v", l)
	}
}

// P4.4: a swap compares all three fields with the last message's word.
func TestSwapCompares(t *testing.T) {
	word := api.Word{Val: 5, Ver: 6, Ref: 7}
	m, _ := memory.New(2, val(0), word)
	for _, old := range []api.Word{{Val: 4, Ver: 6, Ref: 7}, {Val: 5, Ver: 5, Ref: 7}, {Val: 5, Ver: 6, Ref: 8}, {}} {
		n, w, ok, e := m.Swap(1, 1, old, val(9))
		if ok || e != api.OK || w != word || !same(m, n) {
			t.Errorf("Swap of %v: %v, %v, %d", old, w, ok, e)
		}
	}
	next := api.Word{Val: 5, Ver: 7, Ref: 1}
	n, w, ok, e := m.Swap(1, 1, word, next)
	h, _ := n.History(1)
	if !ok || e != api.OK || w != word || h.Len() != 2 || h.Last().Word != next || h.Last().Thread != 1 {
		t.Errorf("Swap: %v, %v, %d, the messages %v", w, ok, e, h)
	}
	expect(t, "author", n.Seen(1), 0, 1)
	expect(t, "message", h.Last().View, 0, 1)
	n, w, ok, _ = n.Swap(2, 1, next, next)
	if h, _ = n.History(1); !ok || w != next || h.Len() != 3 {
		t.Errorf("Swap for the same word: %v, %v, %d messages", w, ok, h.Len())
	}
}

// P4.4: a swap acquires, matching or not, and one that matches releases what it has acquired.
func TestSwapJoins(t *testing.T) {
	m := fresh(t, 3, 4)
	m = store(t, m, 1, 0, 7, false)
	m = store(t, m, 1, 1, 1, true)
	m = store(t, m, 2, 3, 4, false)
	for _, old := range []int64{0, 1} {
		n, w, ok, _ := m.Swap(2, 1, val(old), val(5))
		h, _ := n.History(1)
		if w.Val != 1 || ok != (old == 1) || h.Len() != 2+int(old) {
			t.Errorf("Swap of %d: %v, %v, %d messages", old, w, ok, h.Len())
		}
		expect(t, "swapper", n.Seen(2), 1, 1+int(old), 0, 1)
		if ok {
			expect(t, "message", h.Last().View, 1, 2, 0, 1)
		}
		expect(t, "other thread", n.Seen(3))
	}
}

// P4.5: what a chain of releases and acquires hands on, and what an unreleased link does not.
func TestKnowledgeIsTransitive(t *testing.T) {
	for _, x := range []struct {
		release, acquire bool
		wanted           int
	}{{true, true, 1}, {true, false, 0}, {false, true, 0}, {false, false, 0}} {
		m := fresh(t, 3, 3)
		m = store(t, m, 1, 0, 7, false)
		m = store(t, m, 1, 1, 1, x.release)
		m, _ = load(t, m, 2, 1, x.acquire, 0)
		m, _, ok, _ := m.Swap(2, 2, val(0), val(1))
		m, _, _ = m.Look(3, 2)
		if !ok || m.Seen(3).At(0) != x.wanted {
			t.Errorf("release %v, acquire %v: thread 3 knows %d at address 0", x.release, x.acquire, m.Seen(3).At(0))
		}
	}
}

// P4.5: no swap is lost, however stale the threads are.
func TestNoSwapIsLost(t *testing.T) {
	m := fresh(t, 8, 1)
	sum := 0
	for i := range 200 {
		thread := i*5%8 + 1
		_, guess := load(t, m, thread, 0, false, i%3)
		n, found, ok, _ := m.Swap(thread, 0, guess, val(guess.Val+1))
		if ok != (guess == found) || found.Val != int64(sum) {
			t.Fatalf("swap %d finds %d of %d", i, found.Val, sum)
		}
		if ok {
			sum++
		}
		m = n
	}
	if w, _ := m.Last(0); w.Val != int64(sum) || sum < 50 {
		t.Errorf("%d swaps took effect, and the word is %d", sum, w.Val)
	}
}

// All operations leave the memory that they were called on, and those made of it, as they were.
func TestMemoriesStay(t *testing.T) {
	build := func() memory.Memory {
		m := fresh(t, 2, 2)
		m = store(t, m, 1, 0, 7, true)
		return store(t, m, 1, 1, 1, true)
	}
	m := build()
	left := store(t, m, 2, 0, 100, true)
	right := store(t, m, 1, 0, 200, false)
	left.Store(1, 1, val(300), true)
	m.Load(2, 0, true, 0)
	m.Look(2, 1)
	m.Swap(2, 1, val(1), val(5))
	m.Swap(2, 1, val(0), val(5))
	h, _ := m.History(0)
	h.Add(history.Message{Word: val(400)})
	m.Seen(1).With(0, 9)
	if !same(m, build()) {
		t.Error("the memory has changed")
	}
	if !same(left, store(t, build(), 2, 0, 100, true)) || !same(right, store(t, build(), 1, 0, 200, false)) {
		t.Error("two memories made of one meet")
	}
}

// The examples of the chapter.
func TestExamples(t *testing.T) {
	m := fresh(t, 2, 2)
	m = store(t, m, 1, 0, 7, false)
	m = store(t, m, 1, 1, 1, true)
	if l := loads(t, m, 2, 0); len(l) != 2 || l[0] != 7 || l[1] != 0 {
		t.Errorf("before the acquire: %v", l)
	}
	n, w := load(t, m, 2, 1, true, 0)
	if w.Val != 1 {
		t.Errorf("the flag is %d", w.Val)
	}
	for choice := range 9 {
		if _, w := load(t, n, 2, 0, false, choice); w.Val != 7 {
			t.Errorf("after the acquire choice %d loads %d", choice, w.Val)
		}
	}
	if _, w, ok, e := m.Swap(2, 1, val(0), val(5)); w.Val != 1 || ok || e != api.OK {
		t.Errorf("Swap: %v, %v, %d", w, ok, e)
	}
}
