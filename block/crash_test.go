package block_test

import (
	"fmt"
	"math/rand"
	"slices"
	"testing"

	"simulcast/api"
	"simulcast/help"
	"simulcast/layout"
	"simulcast/model"
)

// choices are those of a crash: nothing that is not guaranteed survives, all of it, and parts.
func choices() []int {
	all := []int{-1, -2}
	for i := range 12 {
		all = append(all, 7*i)
	}
	return all
}

// effect reports whether a swap of these entries, which find what they expect, has taken effect in a model, and checks
// that it has done so completely or not at all.
func effect(t *testing.T, what string, before, now model.Model, entries []api.Entry) bool {
	t.Helper()
	next, ok, e := before.Swap(entries...)
	if !ok || e != api.OK {
		t.Fatalf("%s: Swap of the model %v, %d", what, ok, e)
	}
	switch {
	case sameModel(now, next):
		return true
	case !sameModel(now, before):
		t.Fatalf("%s: the words are neither those before nor those behind the swap: %v", what, now.Words())
	}
	return false
}

// completed returns a memory in which what a block's last swap has left behind is completed, and no block is used.
func completed(t *testing.T, l layout.Layout, words []api.Word, number int) image {
	t.Helper()
	m := image(words)
	m.used(t, l)
	if ver := m[l.Block(number)].Ver; ver > 0 {
		c, e := help.New(l, ref(9+number, int(ver)), true)
		if e != api.OK {
			t.Fatal("help:", e)
		}
		w, ok := world(t, m, c).Alone(1, 5000)
		want(t, "the help has finished", ok, true)
		m = w.M.Words()
	}
	return m
}

// P23.4: a crash behind each act of a durable swap, with some of the locations in records and far apart, in a block that is
// fresh or has been used; then what is left is completed, and another swap is made.
func TestCrashBehindEachAct(t *testing.T) {
	l := layout.Layout{Threads: 2, Cells: 40, Blocks: 2}
	entries := []api.Entry{written(l.Record(2)+1, 3, 1, 4), unwritten(l.Cell(3), 5, 2), written(l.Cell(4), 6, 7, 8), written(l.Cell(39), 0, 0, 1)}
	mine := written(l.Cell(20), 0, 0, 9)
	for _, n := range []int{1, 3, 4} {
		for number := range 2 {
			before := scene(l, entries...)
			if number > 0 {
				before.used(t, l, 0)
				last := op(10, 3, done, written(l.Cell(4), 6, 6, 6), written(l.Cell(17), 0, 0, 2))
				before.put(t, l, last, 0)
			}
			w := world(t, before, newSwap(t, l, true, entries[:n]...))
			first := logical(t, l, before)
			kept := map[bool]int{}
			for step := 0; ; step++ {
				for _, choice := range choices() {
					what := fmt.Sprintf("%d entries, block %d, a crash behind act %d with choice %d", n, number, step, choice)
					crashed := w.M.Crash(choice).Words()
					took := effect(t, what, first, logical(t, l, crashed), entries[:n])
					if kept[took]++; w.Done() && !took {
						t.Fatalf("%s: the effect is lost", what)
					}
					next, o := alone(t, world(t, completed(t, l, crashed, number), newSwap(t, l, true, mine)), 1)
					want(t, what+": the next swap", o, outcome{true, api.OK, true, 0})
					now := logical(t, l, next.M.Crash(-1).Words()).Words()
					want(t, what+": the word of the next swap", now[mine.At], after(mine))
					now[mine.At] = mine.Old
					if later := effect(t, what, first, model.New(now...), entries[:n]); took && !later {
						t.Fatalf("%s: the effect is lost later", what)
					}
				}
				if w.Done() {
					break
				}
				w, _ = w.Step(api.Pick{Thread: 1})
			}
			want(t, "the swap is done", outcomeOf(w.Tasks[0].Code()), outcome{true, api.OK, true, 0})
			if kept[true] < 20 || kept[false] < 20 {
				t.Errorf("%d crashes have kept the effect, %d have not", kept[true], kept[false])
			}
		}
	}
}

// P23.4: a crash behind each act of a durable swap that fails or finds no block changes no logical word.
func TestCrashBehindFailure(t *testing.T) {
	l := layout.Layout{Threads: 1, Cells: 20, Blocks: 1}
	entries := []api.Entry{written(l.Cell(3), 5, 2, 9), written(l.Cell(12), 1, 1, 2)}
	for n, wanted := range []outcome{{false, api.OK, true, 0}, {false, api.OK, true, 0}, {false, api.ErrFull, true, 0}, {false, api.ErrFull, true, 0}} {
		m := scene(l, entries...)
		switch n {
		case 0, 1:
			m[entries[n].At].Ver++
		case 2:
			m.used(t, l, 0)
		case 3:
			m[l.Block(0)].Ver = api.MaxSeq
		}
		first := logical(t, l, m)
		w := world(t, m, newSwap(t, l, true, entries...))
		for step := 0; ; step++ {
			for _, choice := range choices() {
				if now := logical(t, l, w.M.Crash(choice).Words()); !sameModel(now, first) {
					t.Fatalf("case %d, a crash behind act %d with choice %d: the words are %v", n, step, choice, now.Words())
				}
			}
			if w.Done() {
				break
			}
			w, _ = w.Step(api.Pick{Thread: 1})
		}
		want(t, "the end", outcomeOf(w.Tasks[0].Code()), wanted)
	}
}

// crash checks the memory behind a crash in the middle of a run of durable swaps: it is one that some of the swaps which
// have taken effect have led to, each of them completely or not at all, and those that are done completely.
func (x *watch) crash(t *testing.T, first model.Model, choice int) int {
	t.Helper()
	now := logical(t, x.layout, x.world.M.Crash(choice).Words())
	wanted, present := first.Words(), 0
	for _, a := range x.order {
		applied, writes, lost := 0, 0, false
		for _, e := range a.entries {
			w, _ := now.At(e.At)
			lost = lost || w.Ver < e.Old.Ver
			if !e.Write {
				continue
			}
			writes++
			if w.Ver > e.Old.Ver {
				applied++
				wanted[e.At] = after(e)
			}
		}
		if applied != 0 && (applied != writes || lost) || (applied != writes || lost) && x.begun[a].ended {
			t.Fatalf("%+v writes %d words, the crash with choice %d leaves %d of them, and something that it has seen is lost: %v; it has finished: %v", a, writes, choice, applied, lost, x.begun[a].ended)
		}
		if applied == writes {
			present++
		}
	}
	if !slices.Equal(now.Words(), wanted) {
		t.Fatalf("the crash with choice %d leaves %v, wanted %v", choice, now.Words(), wanted)
	}
	return present
}

// P23.4: crashes at any time of random runs of durable swaps, in blocks alone and mixed with others.
func TestCrashInRandomSchedules(t *testing.T) {
	marks, present, absent := map[string]int{}, 0, 0
	for seed := range int64(60) {
		r := rand.New(rand.NewSource(seed))
		x := anyWatch(t, r, 4, true, seed%2 == 0)
		first := x.model
		for !x.world.Done() {
			x.anyStep(t, r, seed%3 == 0)
			n := x.crash(t, first, choices()[r.Intn(len(choices()))])
			present, absent = present+n, absent+len(x.order)-n
		}
		for _, w := range x.workers() {
			for _, k := range w.results {
				marks[mark(k)]++
			}
		}
	}
	if marks["+"] < 150 || present < 1000 || absent < 50 {
		t.Errorf("the answers are %v; %d swaps were present behind crashes, %d were not", marks, present, absent)
	}
}
