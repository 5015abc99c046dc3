package line_test

import (
	"math"
	"slices"
	"testing"

	"simulcast/api"
	"simulcast/line"
)

func val(v int64) api.Word { return api.Word{Val: v} }

// fresh returns the lines of a memory whose initial words are 0.
func fresh(t *testing.T, places int) line.Lines {
	t.Helper()
	l, e := line.New(make([]api.Word, places)...)
	if e != api.OK {
		t.Fatal("New:", e)
	}
	return l
}

func put(t *testing.T, l line.Lines, at api.Loc, v int64) line.Lines {
	t.Helper()
	n, e := l.Store(at, val(v))
	if e != api.OK {
		t.Fatalf("Store at %d: %d", at, e)
	}
	return n
}

func flush(t *testing.T, l line.Lines, thread int, at api.Loc) line.Lines {
	t.Helper()
	n, e := l.Flush(thread, at)
	if e != api.OK {
		t.Fatalf("Flush by %d at %d: %d", thread, at, e)
	}
	return n
}

func sync(t *testing.T, l line.Lines, thread int) line.Lines {
	t.Helper()
	n, e := l.Sync(thread)
	if e != api.OK {
		t.Fatalf("Sync by %d: %d", thread, e)
	}
	return n
}

func expectKept(t *testing.T, what string, l line.Lines, number, kept, length int) {
	t.Helper()
	if k, n := l.Kept(number); k != kept || n != length {
		t.Errorf("%s: Kept(%d) is %d, %d, wanted %d, %d", what, number, k, n, kept, length)
	}
}

// expectVals compares the first words with the values; the words after them must be zero.
func expectVals(t *testing.T, what string, words []api.Word, wanted ...int64) {
	t.Helper()
	for i, w := range words {
		v := int64(0)
		if i < len(wanted) {
			v = wanted[i]
		}
		if w != val(v) {
			t.Errorf("%s: %v at %d, wanted %d", what, w, i, v)
		}
	}
	if len(words) < len(wanted) {
		t.Errorf("%s: %d words, wanted %d", what, len(words), len(wanted))
	}
}

// sight is all that lines show, what a Sync of each thread would keep among it.
type sight struct {
	words [][]api.Word
	kept  [][2]int
}

func look(l line.Lines) sight {
	s := sight{words: [][]api.Word{l.Least()}}
	for choice := -3; choice < 12; choice++ {
		s.words = append(s.words, l.Crash(choice))
	}
	for thread := range 9 {
		n, _ := l.Sync(thread)
		for i := -1; i < 4; i++ {
			k, length := n.Kept(i)
			s.kept = append(s.kept, [2]int{k, length})
		}
	}
	return s
}

func (s sight) same(b sight) bool {
	return slices.EqualFunc(s.words, b.words, slices.Equal[[]api.Word]) && slices.Equal(s.kept, b.kept)
}

// P5.1, P5.2: the initial words, and as many lines as they need.
func TestNew(t *testing.T) {
	for _, n := range []int{0, 1, 7, 8, 9, 16, 17, 4095, 4096} {
		words := make([]api.Word, n)
		for i := range words {
			words[i] = api.Word{Val: int64(-i), Ver: uint32(i), Ref: uint32(i * 3)}
		}
		l, e := line.New(words...)
		if e != api.OK {
			t.Fatalf("New of %d words: %d", n, e)
		}
		for _, got := range [][]api.Word{l.Least(), l.Crash(-1), l.Crash(-2), l.Crash(5)} {
			if !slices.Equal(got, words) {
				t.Errorf("%d words come back as %d others", n, len(got))
			}
		}
		if _, e := l.Store(api.Loc(n), val(1)); e != api.ErrArg {
			t.Errorf("Store behind %d words: %d", n, e)
		}
		for i := range n/8 + 2 {
			expectKept(t, "initially", l, i, 0, 0)
		}
	}
}

// P5.1: too many words.
func TestNewErrors(t *testing.T) {
	for _, n := range []int{4097, 5000} {
		l, e := line.New(make([]api.Word, n)...)
		if e != api.ErrLong || len(l.Least()) != 0 || len(l.Crash(-2)) != 0 {
			t.Errorf("New of %d words: %d words, error %d", n, len(l.Least()), e)
		}
		if _, e := l.Store(0, val(1)); e != api.ErrArg {
			t.Errorf("Store after the error: %d", e)
		}
	}
}

// P5.1: locations and threads that do not exist, in the order of the errors; nothing changes.
func TestErrors(t *testing.T) {
	l := fresh(t, 10)
	l = put(t, flush(t, put(t, l, 3, 1), 2, 3), 3, 2)
	before := look(l)
	threads := []int{math.MinInt, -1, 0, 9, 10, math.MaxInt}
	places := []api.Loc{math.MinInt, -9, -8, -1, 10, 15, 16, 4096, math.MaxInt}
	check := func(what string, n line.Lines, e, wanted api.Errno) {
		t.Helper()
		if e != wanted || !look(n).same(before) {
			t.Errorf("%s: error %d, wanted %d with the lines unchanged", what, e, wanted)
		}
	}
	for _, at := range places {
		n, e := l.Store(at, val(9))
		check("Store", n, e, api.ErrArg)
		for _, thread := range []int{1, 2, 8} {
			n, e = l.Flush(thread, at)
			check("Flush at no place", n, e, api.ErrArg)
		}
	}
	for _, thread := range threads {
		for _, at := range append(places, 0, 3, 9) {
			n, e := l.Flush(thread, at)
			check("Flush by no thread", n, e, api.ErrRange)
		}
		n, e := l.Sync(thread)
		check("Sync", n, e, api.ErrRange)
	}
}

// P5.1: the zero Lines, and lines without words, take a Sync and nothing else.
func TestNoLocations(t *testing.T) {
	none, e := line.New()
	if e != api.OK {
		t.Error("New without words:", e)
	}
	for _, l := range []line.Lines{{}, none} {
		if n, e := l.Store(0, val(1)); e != api.ErrArg || len(n.Least()) != 0 {
			t.Error("Store:", e)
		}
		if n, e := l.Flush(1, 0); e != api.ErrArg || len(n.Least()) != 0 {
			t.Error("Flush:", e)
		}
		if _, e := l.Flush(0, 0); e != api.ErrRange {
			t.Error("Flush by thread 0:", e)
		}
		if _, e := l.Sync(9); e != api.ErrRange {
			t.Error("Sync by thread 9:", e)
		}
		for thread := 1; thread <= 8; thread++ {
			l = sync(t, l, thread)
		}
		if len(l.Least()) != 0 || len(l.Crash(-1)) != 0 || len(l.Crash(-2)) != 0 || len(l.Crash(7)) != 0 {
			t.Error("there are words")
		}
		expectKept(t, "no line", l, 0, 0, 0)
	}
}

// P5.1: a location belongs to the line of its number divided by 8, and the store keeps all three fields.
func TestStoreGoesToItsLine(t *testing.T) {
	w := api.Word{Val: math.MinInt64, Ver: math.MaxUint32, Ref: 7}
	for at := range api.Loc(20) {
		l, e := fresh(t, 20).Store(at, w)
		if e != api.OK {
			t.Fatalf("Store at %d: %d", at, e)
		}
		for i := range 3 {
			length := 0
			if i == int(at)/8 {
				length = 1
			}
			expectKept(t, "one store", l, i, 0, length)
		}
		expectVals(t, "nothing kept", l.Least())
		for i, x := range l.Crash(-2) {
			if wanted := map[bool]api.Word{i == int(at): w}[true]; x != wanted {
				t.Errorf("store at %d: %v at %d", at, x, i)
			}
		}
		l = sync(t, flush(t, l, 8, at/8*8), 8)
		expectKept(t, "kept", l, int(at)/8, 1, 1)
		if l.Least()[at] != w {
			t.Errorf("%v kept at %d", l.Least()[at], at)
		}
	}
}

// P5.1: only a Flush and then a Sync of the same thread keep anything, and of the flushed line alone.
func TestFlushAndSync(t *testing.T) {
	l := fresh(t, 24)
	l = put(t, put(t, put(t, l, 0, 1), 8, 2), 16, 3)
	expectVals(t, "Sync without Flush", sync(t, l, 1).Least())
	l = flush(t, l, 1, 15)
	expectVals(t, "Flush without Sync", l.Least())
	expectKept(t, "Flush without Sync", l, 1, 0, 1)
	l = sync(t, l, 1)
	expectKept(t, "other line", l, 0, 0, 1)
	expectKept(t, "flushed line", l, 1, 1, 1)
	expectKept(t, "other line", l, 2, 0, 1)
	expectVals(t, "kept", l.Least(), 0, 0, 0, 0, 0, 0, 0, 0, 2)
	l = put(t, flush(t, flush(t, l, 1, 0), 1, 16), 16, 4)
	l = sync(t, l, 1)
	expectKept(t, "two lines", l, 0, 1, 1)
	expectKept(t, "two lines", l, 2, 1, 2)
	expectVals(t, "kept", l.Least(), 1, 0, 0, 0, 0, 0, 0, 0, 2, 0, 0, 0, 0, 0, 0, 0, 3)
}

// P5.1: after a Sync the thread has no requests.
func TestSyncUsesUpRequests(t *testing.T) {
	l := flush(t, put(t, fresh(t, 8), 0, 1), 1, 0)
	l = sync(t, l, 1)
	l = sync(t, put(t, l, 0, 2), 1)
	expectKept(t, "second Sync", l, 0, 1, 2)
	l = put(t, flush(t, l, 1, 0), 0, 3)
	l = sync(t, l, 1)
	expectKept(t, "third Sync", l, 0, 2, 3)
	expectVals(t, "third Sync", l.Least(), 2)
}

// P5.1: a later Flush of the line, by any of its locations, replaces the shorter request of its thread.
func TestShorterRequestIsReplaced(t *testing.T) {
	l := put(t, fresh(t, 16), 0, 1)
	l = put(t, flush(t, l, 3, 0), 1, 2)
	l = put(t, flush(t, l, 3, 7), 0, 3)
	l = flush(t, l, 3, 8)
	l = sync(t, l, 3)
	expectKept(t, "replaced", l, 0, 2, 3)
	expectVals(t, "replaced", l.Least(), 1, 2)
}

// P5.1: a Sync never shortens what is guaranteed already.
func TestLateSyncOfShortRequest(t *testing.T) {
	l := flush(t, put(t, fresh(t, 8), 0, 1), 1, 0)
	l = put(t, l, 0, 2)
	l = put(t, flush(t, l, 2, 0), 0, 3)
	l = sync(t, l, 2)
	expectKept(t, "long request", l, 0, 2, 3)
	l = sync(t, l, 1)
	expectKept(t, "short request", l, 0, 2, 3)
	expectVals(t, "short request", l.Least(), 2)
	expectVals(t, "all", l.Crash(-2), 3)
}

// P5.3: a flush by one thread is not completed by another thread's Sync, and outlasts it.
func TestSyncOfAnotherThread(t *testing.T) {
	for mine := 1; mine <= 8; mine++ {
		l := flush(t, put(t, fresh(t, 8), 5, 1), mine, 5)
		for thread := 1; thread <= 8; thread++ {
			if thread != mine {
				l = sync(t, l, thread)
			}
		}
		expectKept(t, "others", l, 0, 0, 1)
		expectVals(t, "others", l.Least())
		l = sync(t, put(t, l, 5, 2), mine)
		expectKept(t, "own", l, 0, 1, 2)
		expectVals(t, "own", l.Crash(-1), 0, 0, 0, 0, 0, 1)
	}
}

// P5.2: lines that do not exist, and the last line, which may have fewer locations.
func TestKeptOutOfRange(t *testing.T) {
	l := put(t, put(t, fresh(t, 10), 0, 1), 9, 2)
	for _, n := range []int{math.MinInt, -1, 2, 512, math.MaxInt} {
		expectKept(t, "no line", l, n, 0, 0)
	}
	expectKept(t, "last line", l, 1, 0, 1)
}

// P5.2: Crash lets each line keep its own number of stores.
func TestCrashMixesByLine(t *testing.T) {
	l := fresh(t, 24)
	for i := range int64(4) {
		l = put(t, put(t, put(t, l, 0, 10+i), 8, 20+i), 16, 30+i)
	}
	l = sync(t, flush(t, put(t, l, 8, 24), 1, 8), 1)
	l = put(t, put(t, l, 8, 25), 9, 26)
	for choice := range 2000 {
		words := l.Crash(choice)
		a := choice * 31 % 1009 % 5
		b := (choice*31 + 17) % 1009 % 3
		c := (choice*31 + 34) % 1009 % 5
		wanted := [4]int64{[]int64{0, 10, 11, 12, 13}[a], []int64{24, 25, 25}[b], []int64{0, 0, 26}[b], []int64{0, 30, 31, 32, 33}[c]}
		if got := [4]int64{words[0].Val, words[8].Val, words[9].Val, words[16].Val}; got != wanted {
			t.Fatalf("Crash(%d): %v, wanted %v", choice, got, wanted)
		}
	}
}

// P5.3: of one line, no store survives without the stores before it, whatever the choice.
func TestSurvivorsAreAPrefix(t *testing.T) {
	l := fresh(t, 8)
	for i := range int64(20) {
		l = put(t, l, api.Loc(i%8), i+1)
		if i == 4 {
			l = flush(t, l, 1, 0)
		}
	}
	l = sync(t, l, 1)
	lengths := map[int]bool{}
	for choice := -3; choice < 1100; choice++ {
		words := l.Crash(choice)
		n := int64(0)
		for _, w := range words {
			n = max(n, w.Val)
		}
		image := make([]int64, 8)
		for i := range n {
			image[i%8] = i + 1
		}
		expectVals(t, "prefix", words, image...)
		if n < 5 || n > 20 {
			t.Errorf("Crash(%d) keeps %d stores", choice, n)
		}
		lengths[int(n)] = true
	}
	if len(lengths) != 16 {
		t.Errorf("%d lengths of 16 occur", len(lengths))
	}
}

// P5.3: what was flushed and fenced survives every crash, and Crash(-2) and below keep all.
func TestFencedStoreSurvives(t *testing.T) {
	l := put(t, put(t, fresh(t, 16), 1, 5), 9, 6)
	l = sync(t, flush(t, l, 4, 1), 4)
	l = put(t, put(t, l, 2, 7), 10, 8)
	for _, choice := range []int{math.MinInt, -5, -2, -1, 0, 1, 2, 3, 63, 1008, 1009, 1 << 40, math.MaxInt} {
		if words := l.Crash(choice); words[1] != val(5) {
			t.Errorf("Crash(%d) loses the fenced store: %v", choice, words)
		}
	}
	expectVals(t, "none", l.Crash(-1), 0, 5)
	for _, choice := range []int{-2, -3, math.MinInt} {
		expectVals(t, "all", l.Crash(choice), 0, 5, 7, 0, 0, 0, 0, 0, 0, 6, 8)
	}
}

// The example of the chapter.
func TestExample(t *testing.T) {
	l := put(t, put(t, fresh(t, 8), 0, 5), 1, 6)
	l = sync(t, put(t, flush(t, l, 1, 0), 0, 7), 1)
	expectKept(t, "example", l, 0, 2, 3)
	expectVals(t, "Least", l.Least(), 5, 6)
	expectVals(t, "Crash(-1)", l.Crash(-1), 5, 6)
	expectVals(t, "Crash(-2)", l.Crash(-2), 7, 6)
	expectVals(t, "Crash(3)", l.Crash(3), 7, 6)
	if n := line.Mix(3, 0, 1); n != 1 {
		t.Errorf("Mix(3, 0, 1) = %d", n)
	}
}

// Arguments are not kept, and results are new memory.
func TestNoSharedMemory(t *testing.T) {
	words := []api.Word{val(1), val(2), val(3), val(4)}
	l, _ := line.New(words[:2]...)
	if words[2] != val(3) || words[3] != val(4) {
		t.Error("New writes behind its words")
	}
	words[0] = val(9)
	expectVals(t, "after a change of the argument", l.Least(), 1, 2)
	l = put(t, l, 1, 5)
	for _, query := range []func() []api.Word{l.Least, func() []api.Word { return l.Crash(-1) }, func() []api.Word { return l.Crash(-2) }} {
		first, second := query(), query()
		wanted := slices.Clone(second)
		for i := range first {
			first[i] = val(77)
		}
		_ = append(first, val(77))
		if !slices.Equal(second, wanted) || !slices.Equal(query(), wanted) {
			t.Error("a result shares memory")
		}
	}
	expectVals(t, "afterwards", l.Least(), 1, 2)
}
