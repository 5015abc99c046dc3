package detect_test

import (
	"math"
	"math/rand"
	"slices"
	"testing"

	"simulcast/api"
	"simulcast/desc"
	"simulcast/detect"
	"simulcast/layout"
)

// want reports a difference.
func want[T comparable](t *testing.T, what string, got, wanted T) {
	t.Helper()
	if got != wanted {
		t.Errorf("%s: %v, wanted %v", what, got, wanted)
	}
}

// of is the layout of most tests: its records begin at 32, 40 and 48.
var of = layout.Layout{Threads: 3, Cells: 9, Blocks: 2}

var (
	goodLayouts = []layout.Layout{of, {Threads: 1, Cells: 1}, {Threads: 8, Cells: 2048}, {Threads: 8, Cells: 40, Blocks: 64}}
	badLayouts  = []layout.Layout{
		{}, {Threads: 9, Cells: 8}, {Threads: -1, Cells: 8}, {Threads: 1, Cells: 0}, {Threads: 1, Cells: 2049}, {Threads: 1, Cells: 1, Blocks: -1},
		{Threads: 1, Cells: 1, Blocks: 65}, {Threads: 8, Cells: 2048, Blocks: 64}, {Threads: math.MaxInt, Cells: math.MaxInt, Blocks: math.MaxInt},
	}
	anyThreads = []int{math.MinInt, -1 << 32, -1, 0, 1, 2, 3, 4, 7, 8, 9, 10, 11, 72, 1<<32 + 1, math.MaxInt}
)

// recordAt is the location of a record by the chapter of layout.
func recordAt(l layout.Layout, t int) api.Loc { return api.Loc(8 + 8*l.Threads + 8*(t-1)) }

func has(l layout.Layout, t int) bool { return t >= 1 && t <= l.Threads }

// P24.1: the locations of the records of all threads, and none where there is no thread.
func TestAts(t *testing.T) {
	want(t, "the second record", recordAt(of, 2), 40)
	for _, l := range goodLayouts {
		for _, thread := range anyThreads {
			var wanted []api.Loc
			if has(l, thread) {
				at := recordAt(l, thread)
				wanted = []api.Loc{at, at + 1, at + 2}
			}
			got := detect.Ats(l, thread)
			if !slices.Equal(got, wanted) {
				t.Errorf("Ats of %d in %+v: %v, wanted %v", thread, l, got, wanted)
			}
			again := detect.Ats(l, thread)
			clear(got[:cap(got)])
			if !slices.Equal(again, wanted) {
				t.Errorf("Ats of %d: two results share memory", thread)
			}
		}
	}
	for _, l := range badLayouts {
		for _, thread := range anyThreads {
			if got := detect.Ats(l, thread); got != nil {
				t.Errorf("Ats of %d in %+v: %v", thread, l, got)
			}
		}
	}
}

// input has the arguments of Entries.
type input struct {
	l      layout.Layout
	t      int
	was    []api.Word
	number int64
	a      api.Answer
}

// good returns arguments that Entries accepts.
func good() input {
	return input{of, 2, []api.Word{{Val: 4, Ver: 1}, {Val: 5, Ver: 2}, {Val: 6, Ver: 3}}, 9, api.Answer{Err: api.ErrZero, Val: 7}}
}

// expectEntries checks what Entries returns, that it leaves its arguments as they are, with the spare capacity, and that a
// caller may change what it returns.
func (x input) expectEntries(t *testing.T, err api.Errno) {
	t.Helper()
	var wanted []api.Entry
	if err == api.OK {
		at := recordAt(x.l, x.t)
		wanted = []api.Entry{
			{At: at, Old: x.was[0], New: x.number, Write: true},
			{At: at + 1, Old: x.was[1], New: x.a.Val, Write: true},
			{At: at + 2, Old: x.was[2], New: int64(x.a.Err), Write: true},
		}
	}
	given := append(slices.Clone(x.was), api.Word{Val: 77}, api.Word{Val: 78})
	was := slices.Clone(given)
	got, e := detect.Entries(x.l, x.t, was[:len(x.was)], x.number, x.a)
	if e != err || !slices.Equal(got, wanted) || err != api.OK && got != nil {
		t.Errorf("Entries of %+v: %+v, %d, wanted %+v, %d", x, got, e, wanted, err)
	}
	if !slices.Equal(was, given) {
		t.Errorf("Entries of %+v changes its argument to %+v", x, was)
	}
	again, _ := detect.Entries(x.l, x.t, was[:len(x.was)], x.number, x.a)
	clear(got[:cap(got)])
	if !slices.Equal(was, given) || !slices.Equal(again, wanted) {
		t.Errorf("Entries of %+v: its results share memory", x)
	}
}

// P24.1: the entries of all threads, for any words and answers.
func TestEntries(t *testing.T) {
	good().expectEntries(t, api.OK)
	same := good() // the same answer as the last one's is written once more
	same.a = api.Answer{Err: 6, Val: 5}
	same.expectEntries(t, api.OK)
	r := rand.New(rand.NewSource(1))
	for _, l := range goodLayouts {
		for thread := 1; thread <= l.Threads; thread++ {
			for range 20 {
				x := input{l: l, t: thread, number: r.Int63() + 1, a: api.Answer{Err: api.Errno(r.Intn(256)), Val: int64(r.Uint64())}}
				for range 3 {
					x.was = append(x.was, api.Word{Val: int64(r.Uint64()), Ver: r.Uint32() % math.MaxUint32})
				}
				x.was[0].Val %= x.number
				x.expectEntries(t, api.OK)
			}
		}
	}
}

// P24.1: threads that there are and others, and invalid layouts, which come first.
func TestEntriesOfThreads(t *testing.T) {
	for _, l := range goodLayouts {
		for _, thread := range anyThreads {
			x := good()
			x.l, x.t = l, thread
			if has(l, thread) {
				x.expectEntries(t, api.OK)
				continue
			}
			x.expectEntries(t, api.ErrRange)
			x.number = 0
			x.expectEntries(t, api.ErrRange)
			x.was[0] = api.Word{Val: 50, Ref: 1}
			x.expectEntries(t, api.ErrRange)
			x.was = x.was[:2]
			x.expectEntries(t, api.ErrArg)
		}
	}
	for _, l := range badLayouts {
		for _, thread := range anyThreads {
			x := good()
			x.l, x.t = l, thread
			x.expectEntries(t, api.ErrArg)
			x.number, x.was = 0, nil
			x.expectEntries(t, api.ErrArg)
		}
	}
}

// P24.1: lists of no to four words.
func TestEntriesOfLists(t *testing.T) {
	for n := range 6 {
		x := good()
		x.was = append(x.was, x.was...)[:n]
		if n == 3 {
			x.expectEntries(t, api.OK)
			continue
		}
		x.expectEntries(t, api.ErrArg)
		x.t, x.number, x.a.Err = 0, 0, -1
		x.expectEntries(t, api.ErrArg)
	}
}

// P24.1: numbers below 1, and at, below and above the last one.
func TestEntriesOfNumbers(t *testing.T) {
	for _, last := range []int64{math.MinInt64, -1, 0, 1, 2, 9, 1 << 32, math.MaxInt64 - 1, math.MaxInt64} {
		for _, number := range []int64{math.MinInt64, -1 << 32, -1, 0, 1, 2, 3, 8, 9, 10, 1 << 32, 1<<32 + 1, math.MaxInt64 - 1, math.MaxInt64} {
			x := good()
			x.was[0].Val, x.number = last, number
			switch {
			case number < 1:
				x.expectEntries(t, api.ErrValue)
			case number <= last:
				x.expectEntries(t, api.ErrOrder)
			default:
				x.expectEntries(t, api.OK)
			}
		}
	}
}

// P24.1: errors at both ends of what a record can hold, and beyond.
func TestEntriesOfErrors(t *testing.T) {
	for e, wanted := range map[api.Errno]api.Errno{
		math.MinInt: api.ErrValue, -1 << 32: api.ErrValue, -1: api.ErrValue, 0: api.OK, 1: api.OK, api.ErrCrash: api.OK, 254: api.OK, 255: api.OK,
		256: api.ErrValue, 257: api.ErrValue, 1 << 32: api.ErrValue, math.MaxInt: api.ErrValue,
	} {
		x := good()
		x.a.Err = e
		x.expectEntries(t, wanted)
		if wanted == api.OK {
			continue
		}
		x.was[0].Val = 9
		x.expectEntries(t, api.ErrValue)
		x.was[0].Ref = 1
		x.expectEntries(t, api.ErrValue)
		x.t = 4
		x.expectEntries(t, api.ErrRange)
	}
}

// P24.1: words that are no expectations of a swap, the first of them first.
func TestEntriesOfWords(t *testing.T) {
	for i := range 3 {
		for _, r := range []uint32{1, 1<<24 + 1, 73 << 24, math.MaxUint32} {
			x := good()
			x.was[i].Ref = r
			x.expectEntries(t, api.ErrState)
			x.was[i].Ver = math.MaxUint32
			x.expectEntries(t, api.ErrState)
			for j := range 3 {
				y := good()
				y.was[i].Ref, y.was[j].Ver = r, math.MaxUint32
				wanted := api.ErrState
				if j < i {
					wanted = api.ErrFull
				}
				y.expectEntries(t, wanted)
				y.was[0].Val = 9
				y.expectEntries(t, api.ErrOrder)
			}
		}
		x := good()
		x.was[i].Ver = math.MaxUint32 - 1
		x.expectEntries(t, api.OK)
		x.was[i].Ver = math.MaxUint32
		x.expectEntries(t, api.ErrFull)
	}
}

// record is what a memory is wanted to tell of a thread.
type record struct {
	number int64
	answer api.Answer
	err    api.Errno
}

// expectRecord checks what Asked and Happened return for the thread, that they leave the memory as it is, and that for
// any number the one follows from the other.
func expectRecord(t *testing.T, what string, l layout.Layout, w []api.Word, thread int, wanted record) {
	t.Helper()
	kept := slices.Clone(w)
	number, a, e := detect.Asked(l, w, thread)
	want(t, what+": Asked", record{number, a, e}, wanted)
	n := wanted.number
	for _, number := range []int64{math.MinInt64, -1, 0, 1, 2, 3, n - 2, n - 1, n, n + 1, n + 2, 1 << 32, math.MaxInt64} {
		a, is, e := detect.Happened(l, w, thread, number)
		x := record{err: wanted.err}
		switch {
		case x.err != api.OK:
		case number < 1:
			x.err = api.ErrValue
		case number < n:
			x.err = api.ErrState
		case number == n:
			x.answer = wanted.answer
		}
		if (record{0, a, e}) != x || is != (e == api.OK && number == n) {
			t.Errorf("%s: Happened of %d: %+v, %v, %d, wanted %+v", what, number, a, is, e, x)
		}
	}
	if !slices.Equal(w, kept) {
		t.Errorf("%s: the memory has changed", what)
	}
}

// P24.2: the records of all threads at first, which tell of no operation.
func TestFirst(t *testing.T) {
	for _, l := range goodLayouts {
		for _, thread := range anyThreads {
			wanted := record{}
			if !has(l, thread) {
				wanted.err = api.ErrRange
			}
			expectRecord(t, "at first", l, l.First(), thread, wanted)
		}
	}
}

// P24.2: memories of all sizes, and invalid layouts, which come first.
func TestShortMemories(t *testing.T) {
	long := make([]api.Word, 4097)
	for _, l := range goodLayouts {
		for _, thread := range anyThreads {
			for _, n := range []int{0, 1, int(recordAt(l, 1)), int(recordAt(l, l.Threads)) + 3, l.Size() - 8, l.Size() - 1} {
				expectRecord(t, "a short memory", l, long[:n], thread, record{err: api.ErrArg})
			}
			for _, n := range []int{l.Size(), min(l.Size()+1, 4097), 4097} {
				if has(l, thread) {
					expectRecord(t, "a memory that is long enough", l, long[:n], thread, record{})
				}
			}
		}
	}
	for _, l := range badLayouts {
		for _, thread := range anyThreads {
			expectRecord(t, "an invalid layout", l, long, thread, record{err: api.ErrArg})
			expectRecord(t, "an invalid layout", l, nil, thread, record{err: api.ErrArg})
		}
	}
}

// P24.2: records with any words, whose owner alone they concern.
func TestForms(t *testing.T) {
	for _, first := range []int64{math.MinInt64, -2, -1, 0, 1, 7, 1 << 40, math.MaxInt64} {
		for _, third := range []int64{math.MinInt64, -1 << 32, -256, -1, 0, 1, 8, 25, 26, 254, 255, 256, 257, 1 << 32, math.MaxInt64} {
			for _, second := range []int64{math.MinInt64, -1, 0, 5, math.MaxInt64} {
				for thread := 1; thread <= 3; thread++ {
					w := of.First()
					for i, v := range []int64{first, second, third} {
						w[recordAt(of, thread)+api.Loc(i)] = api.Word{Val: v, Ver: uint32(v) * 3}
					}
					for other := 1; other <= 3; other++ {
						wanted := record{}
						switch {
						case other != thread:
						case first < 0 || third < 0 || third > 255:
							wanted.err = api.ErrForm
						default:
							wanted = record{first, api.Answer{Err: api.Errno(third), Val: second}, api.OK}
						}
						expectRecord(t, "a record", of, w, other, wanted)
					}
				}
			}
		}
	}
}

// put writes a descriptor into a memory, and installs it in the record of a thread, where it finds these values.
func put(t *testing.T, w []api.Word, d desc.Desc, values [3]int64, thread int) {
	t.Helper()
	words, e := desc.Words(of, d)
	if e != api.OK {
		t.Fatal("Words:", e)
	}
	at, _ := of.Place(d.Who)
	copy(w[at:], words)
	for i, v := range values {
		w[recordAt(of, thread)+api.Loc(i)] = api.Word{Val: v, Ver: 5, Ref: uint32(d.Who<<24 + d.Seq)}
	}
}

// P24.2: the words of a record that an operation holds are those which it stands for: the new ones once it is done.
func TestHeldRecords(t *testing.T) {
	old, new := [3]int64{4, 44, 1}, [3]int64{6, -66, 255}
	for _, who := range []int{1, 2, 3, 9, 10} {
		for status := desc.Open; status <= desc.Filling; status++ {
			for thread := 1; thread <= 3; thread++ {
				for _, x := range []struct {
					what string
					seq  int // of the status word, where the reference says 8
					old  [3]int64
					new  [3]int64
					err  api.Errno // if the operation is done
				}{
					{"a good record", 8, old, new, api.OK},
					{"of another number", 9, old, new, api.OK},
					{"with a negative number", 8, old, [3]int64{-1, 0, 0}, api.ErrForm},
					{"with a bad error", 8, old, [3]int64{6, 0, 256}, api.ErrForm},
					{"with a bad error before", 8, [3]int64{4, 0, 256}, new, api.OK},
				} {
					var list []api.Entry
					for i, at := range detect.Ats(of, thread) {
						list = append(list, api.Entry{At: at, Old: api.Word{Val: x.old[i], Ver: 5}, New: x.new[i], Write: true})
					}
					w := of.First()
					put(t, w, desc.Desc{Who: who, Seq: 8, Status: status, Entries: list}, x.old, thread)
					at, _ := of.Place(who)
					w[at].Ver = uint32(x.seq)
					v, err := x.old, api.OK
					if status == desc.Done && x.seq == 8 {
						v, err = x.new, x.err
					} else if x.old[2] > 255 {
						err = api.ErrForm
					}
					wanted := record{v[0], api.Answer{Err: api.Errno(v[2]), Val: v[1]}, api.OK}
					if err != api.OK {
						wanted = record{err: err}
					}
					expectRecord(t, x.what, of, w, thread, wanted)
					expectRecord(t, "another record", of, w, thread%3+1, record{})
				}
			}
		}
	}
}

// P24.2: operations that write a part of the record, or only read it, or hold a part of it.
func TestPartlyHeldRecords(t *testing.T) {
	at := recordAt(of, 2)
	for i := range api.Loc(3) {
		for _, write := range []bool{false, true} {
			e := api.Entry{At: at + i, Old: api.Word{Val: 4, Ver: 5}, New: 4, Write: write}
			if write {
				e.New = 70
			}
			for _, held := range []bool{false, true} {
				w := of.First()
				put(t, w, desc.Desc{Who: 9, Seq: 8, Status: desc.Done, Entries: []api.Entry{e}}, [3]int64{4, 4, 4}, 2)
				if !held {
					w[at+i].Ref = 0
				}
				v := [3]int64{4, 4, 4}
				if write && held {
					v[i] = 70
				}
				expectRecord(t, "partly held", of, w, 2, record{v[0], api.Answer{Err: api.Errno(v[2]), Val: v[1]}, api.OK})
			}
		}
	}
}

// Example 1.
func TestExample(t *testing.T) {
	l := layout.Layout{Threads: 1, Cells: 1}
	list, e := detect.Entries(l, 1, make([]api.Word, 3), 3, api.Answer{Err: api.OK, Val: 7})
	want(t, "Entries", e, api.OK)
	w := l.First()
	for _, x := range list {
		w[x.At] = api.Word{Val: x.New, Ver: x.Old.Ver + 1}
	}
	at := l.Record(1)
	want(t, "the record", [3]int64{w[at].Val, w[at+1].Val, w[at+2].Val}, [3]int64{3, 7, 0})
	a, is, e := detect.Happened(l, w, 1, 3)
	want(t, "number 3", a == api.Answer{Val: 7} && is && e == api.OK, true)
	a, is, e = detect.Happened(l, w, 1, 4)
	want(t, "number 4", a == api.Answer{} && !is && e == api.OK, true)
	a, is, e = detect.Happened(l, w, 1, 2)
	want(t, "number 2", a == api.Answer{} && !is && e == api.ErrState, true)
}
