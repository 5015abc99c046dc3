package detect_test

import (
	"fmt"
	"math/rand"
	"slices"
	"testing"

	"simulcast/api"
	"simulcast/block"
	"simulcast/desc"
	"simulcast/detect"
	"simulcast/layout"
	"simulcast/machine"
	"simulcast/swap"
	"simulcast/task"
)

// operation is a durable swap of a thread that writes its record together with a cell.
type operation struct {
	thread  int
	number  int64
	answer  api.Answer
	cell    api.Entry
	inBlock bool
}

// logical returns the logical words of a record.
func logical(t *testing.T, l layout.Layout, w []api.Word, thread int) []api.Word {
	t.Helper()
	var list []api.Word
	for _, at := range detect.Ats(l, thread) {
		x, e := desc.Logical(l, w, at)
		if e != api.OK {
			t.Fatal("Logical:", e)
		}
		list = append(list, x)
	}
	return list
}

// code returns the code of an operation on a memory.
func (o operation) code(t *testing.T, l layout.Layout, w []api.Word) task.Code {
	t.Helper()
	list, e := detect.Entries(l, o.thread, logical(t, l, w, o.thread), o.number, o.answer)
	if e != api.OK {
		t.Fatal("Entries:", e)
	}
	list = append(list, o.cell)
	slices.SortFunc(list, func(a, b api.Entry) int { return int(a.At - b.At) })
	var c task.Code
	if o.inBlock {
		c, e = block.New(l, true, list...)
	} else {
		c, e = swap.New(l, o.thread, 1+int(w[l.Slot(o.thread)].Ver), true, list...)
	}
	if e != api.OK {
		t.Fatal("New:", e)
	}
	return c
}

// world returns a world of codes on a machine with these words.
func world(t *testing.T, words []api.Word, codes ...task.Code) task.World {
	t.Helper()
	m, e := machine.New(len(codes), words...)
	if e != api.OK {
		t.Fatal("New:", e)
	}
	w, e := task.Make(m, codes...)
	if e != api.OK {
		t.Fatal("Make:", e)
	}
	return w
}

// run lets the operation run alone, and crashes behind each of its acts. Its record is the one before, as long as the cell
// is, and then its own. It returns the memory at the end.
func (o operation) run(t *testing.T, what string, l layout.Layout, words []api.Word, before record, others map[int]record, happens bool) []api.Word {
	t.Helper()
	w := world(t, words, o.code(t, l, words))
	mine := record{o.number, o.answer, api.OK}
	cell, _ := desc.Logical(l, words, o.cell.At)
	seen := map[bool]int{}
	for step := 0; ; step++ {
		for _, choice := range []int{-2, -1, 0, 3, 14, 31, 77} {
			now := w.M.Words()
			if choice > -2 {
				now = w.M.Crash(choice).Words()
			}
			x, _ := desc.Logical(l, now, o.cell.At)
			took := x != cell
			seen[took]++
			wanted := before
			if took {
				wanted = mine
			}
			at := fmt.Sprintf("%s, behind act %d, choice %d", what, step, choice)
			expectRecord(t, at, l, now, o.thread, wanted)
			for thread, r := range others {
				expectRecord(t, at+", another thread", l, now, thread, r)
			}
			if w.Done() {
				want(t, at+": it took effect", took, happens)
			}
		}
		if w.Done() {
			break
		}
		w, _ = w.Step(api.Pick{Thread: 1})
	}
	want(t, what+": before it took effect", seen[false] > 20, true)
	want(t, what+": after it took effect", seen[true] > 20, happens)
	return w.M.Words()
}

// P24.3: operations that write records and a cell, in slots and in blocks, done and not done; behind each of their acts
// there is a crash. A record stays until the next operation of the thread takes effect, and tells nothing of the others.
func TestOperations(t *testing.T) {
	l := layout.Layout{Threads: 3, Cells: 9, Blocks: 2}
	cell := l.Cell(4)
	words := l.First()
	records := map[int]record{1: {}, 2: {}, 3: {}}
	value := api.Word{}
	for i, o := range []operation{
		{thread: 1, number: 1, answer: api.Answer{Val: 7}},
		{thread: 2, number: 5, answer: api.Answer{Val: -7, Err: api.ErrZero}, inBlock: true},
		{thread: 1, number: 2, answer: api.Answer{Val: 7}, inBlock: true},
		{thread: 3, number: 1 << 40, answer: api.Answer{Err: 255}},
		{thread: 2, number: 6, answer: api.Answer{}},
		{thread: 1, number: 9, answer: api.Answer{Val: 1, Err: 1}, inBlock: true},
	} {
		what := fmt.Sprintf("operation %d", i)
		others := map[int]record{}
		for thread, r := range records {
			if thread != o.thread {
				others[thread] = r
			}
		}
		o.cell = api.Entry{At: cell, Old: api.Word{Val: value.Val, Ver: value.Ver + 1}, New: 9, Write: true}
		words = o.run(t, what+", which fails", l, words, records[o.thread], others, false)
		o.cell = api.Entry{At: cell, Old: value, New: value.Val + 1, Write: true}
		words = o.run(t, what, l, words, records[o.thread], others, true)
		value = words[cell]
		records[o.thread] = record{o.number, o.answer, api.OK}
	}
}

// P24.3: threads whose operations overlap under random schedules, with crashes. What a record tells is what the words of
// the thread's last operation with an effect were, and each thread knows of its own ones.
func TestOverlappingOperations(t *testing.T) {
	l := layout.Layout{Threads: 3, Cells: 2, Blocks: 3}
	happened := map[bool]int{}
	for seed := range int64(40) {
		r := rand.New(rand.NewSource(seed))
		words := l.First()
		var codes []task.Code
		var all []operation
		for thread := 1; thread <= 3; thread++ {
			o := operation{thread: thread, number: r.Int63n(5) + 1, answer: api.Answer{Val: int64(r.Uint64()), Err: api.Errno(r.Intn(256))}, inBlock: r.Intn(2) == 0}
			o.cell = api.Entry{At: l.Cell(r.Intn(2)), New: int64(thread), Write: true}
			all, codes = append(all, o), append(codes, o.code(t, l, words))
		}
		w := world(t, words, codes...)
		for !w.Done() {
			w, _ = w.Step(api.Pick{Thread: 1 + r.Intn(3), Choice: r.Intn(4)})
			crashed := w.M.Crash(r.Intn(20) - 1).Words()
			for i, o := range all {
				x, _ := desc.Logical(l, crashed, o.cell.At)
				took := x.Val == int64(o.thread)
				wanted := record{}
				if took {
					wanted = record{o.number, o.answer, api.OK}
				}
				expectRecord(t, fmt.Sprintf("seed %d, thread %d", seed, o.thread), l, crashed, o.thread, wanted)
				if w.Tasks[i].Done() {
					a, _ := swap.Answer(w.Tasks[i].Code())
					b, _, _ := block.Answer(w.Tasks[i].Code())
					want(t, fmt.Sprintf("seed %d, thread %d: it took effect", seed, o.thread), took, a || b)
					happened[took]++
				}
			}
		}
	}
	if happened[true] < 100 || happened[false] < 20 {
		t.Errorf("so many took effect: %v", happened)
	}
}
