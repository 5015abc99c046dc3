package swap_test

import (
	"fmt"
	"math/rand"
	"slices"
	"testing"

	"simulcast/api"
	"simulcast/layout"
	"simulcast/model"
)

// choices are those of a crash: nothing that is not guaranteed survives, all of it, and parts.
func choices() []int {
	all := []int{-1, -2}
	for i := range 12 {
		all = append(all, 7*i)
	}
	return all
}

// effect reports whether a swap of these entries, which find what they expect, has taken effect in a model, and checks
// that it has done so completely or not at all.
func effect(t *testing.T, what string, before, now model.Model, entries []api.Entry) bool {
	t.Helper()
	next, ok, e := before.Swap(entries...)
	if !ok || e != api.OK {
		t.Fatalf("%s: Swap of the model %v, %d", what, ok, e)
	}
	switch {
	case sameModel(now, next):
		return true
	case !sameModel(now, before):
		t.Fatalf("%s: the words are neither those before nor those behind the swap: %v", what, now.Words())
	}
	return false
}

// P21.4: a crash behind each act of a durable swap, with some of the locations in records and far apart; then the same
// thread makes another swap, which first completes what is left.
func TestCrashBehindEachAct(t *testing.T) {
	l := layout.Layout{Threads: 2, Cells: 40}
	entries := []api.Entry{written(l.Record(2)+1, 3, 1, 4), unwritten(l.Cell(3), 5, 2), written(l.Cell(4), 6, 7, 8), written(l.Cell(39), 0, 0, 1)}
	mine := written(l.Cell(20), 0, 0, 9)
	for _, n := range []int{1, 3, 4} {
		for _, last := range []int{-1, open, done} { // the status of the slot's last swap, if there is one
			before := scene(l, entries...)
			if last >= 0 {
				before.put(t, l, op(1, 3, last, written(l.Cell(8), 0, 0, 1), written(l.Cell(17), 0, 0, 2)), 1+last)
			}
			w := world(t, before, newSwap(t, l, 1, 7, true, entries[:n]...))
			first := logical(t, l, before)
			if last == open {
				w, _ = w.Step(api.Pick{Thread: 1})
				for w.M.Words()[l.Slot(1)] == (api.Word{Val: open, Ver: 3}) {
					w, _ = w.Step(api.Pick{Thread: 1})
				}
				first = logical(t, l, w.M.Words())
				w, _ = w.Step(api.Pick{Thread: 1})
				w, _ = w.Step(api.Pick{Thread: 1}) // what has become of the last swap is flushed
			}
			kept := map[bool]int{}
			for step := 0; ; step++ {
				for _, choice := range choices() {
					what := fmt.Sprintf("%d entries, a crash behind act %d with choice %d", n, step, choice)
					crashed := w.M.Crash(choice).Words()
					took := effect(t, what, first, logical(t, l, crashed), entries[:n])
					if kept[took]++; w.Done() && !took {
						t.Fatalf("%s: the effect is lost", what)
					}
					next, answer := alone(t, world(t, crashed, newSwap(t, l, 1, 8, true, mine)), 1)
					want(t, what+": the next swap", answer, true)
					now := logical(t, l, next.M.Crash(-1).Words()).Words()
					want(t, what+": the word of the next swap", now[mine.At], after(mine))
					now[mine.At] = mine.Old
					if later := effect(t, what, first, model.New(now...), entries[:n]); took && !later {
						t.Fatalf("%s: the effect is lost later", what)
					}
				}
				if w.Done() {
					break
				}
				w, _ = w.Step(api.Pick{Thread: 1})
			}
			if kept[true] < 20 || kept[false] < 20 {
				t.Errorf("%d crashes have kept the effect, %d have not", kept[true], kept[false])
			}
		}
	}
}

// P21.4: a crash behind each act of a durable Simple, at a plain word and at words that others hold.
func TestCrashBehindSimple(t *testing.T) {
	l := layout.Layout{Threads: 2, Cells: 40, Blocks: 1}
	at := l.Cell(3)
	e := written(at, 5, 2, 9)
	reader := []api.Entry{unwritten(at, 5, 2), unwritten(l.Cell(30), 0, 0)}
	for _, who := range []int{0, 1, 2, 9} {
		for status := open; status <= filling; status++ {
			m := scene(l, e)
			if who > 0 {
				m.put(t, l, op(who, 3, status, reader...), 1+status%2)
			}
			w := world(t, m, newSimple(t, l, true, e))
			first := logical(t, l, m)
			for step := 0; ; step++ {
				for _, choice := range choices() {
					what := fmt.Sprintf("held by %d, status %d, a crash behind act %d with choice %d", who, status, step, choice)
					took := effect(t, what, first, logical(t, l, w.M.Crash(choice).Words()), []api.Entry{e})
					if w.Done() && !took {
						t.Fatalf("%s: the effect is lost", what)
					}
				}
				if w.Done() {
					break
				}
				w, _ = w.Step(api.Pick{Thread: 1})
			}
			_, answer := alone(t, w, 1)
			want(t, "Simple succeeds", answer, true)
		}
	}
}

// P21.4: what a durable swap has found when it fails survives: what it has seen of others is there behind a crash.
func TestCrashBehindFailure(t *testing.T) {
	l := layout.Layout{Threads: 2, Cells: 8}
	at := l.Cell(3)
	e := written(at, 5, 2, 9)
	for n := range 3 {
		// Another thread changes the word, and does not flush it.
		quick := newSimple(t, l, false, e)
		late := newSimple(t, l, true, e)
		if n == 1 {
			late = newSwap(t, l, 2, 1, true, e)
		} else if n == 2 {
			late = newSwap(t, l, 2, 1, true, unwritten(l.Cell(0), 0, 0), e)
		}
		w, answer := alone(t, world(t, scene(l, e), quick, late), 1)
		want(t, "the first one succeeds", answer, true)
		w, answer = alone(t, w, 2)
		want(t, "the second one fails", answer, false)
		for _, choice := range choices() {
			want(t, "the word behind a crash", w.M.Crash(choice).Words()[at], after(e))
		}
	}
}

// crash checks the memory behind a crash in the middle of a run of durable swaps: it is one that some of the swaps which
// have taken effect have led to, each of them completely or not at all, and those that have succeeded completely.
func (x *watch) crash(t *testing.T, first model.Model, choice int) []api.Word {
	t.Helper()
	words := x.world.M.Crash(choice).Words()
	now := logical(t, x.layout, words)
	wanted := first.Words()
	for _, a := range x.order {
		applied, writes, lost := 0, 0, false
		for _, e := range a.entries {
			w, _ := now.At(e.At)
			lost = lost || w.Ver < e.Old.Ver
			if !e.Write {
				continue
			}
			writes++
			if w.Ver > e.Old.Ver {
				applied++
				wanted[e.At] = after(e)
			}
		}
		if applied != 0 && (applied != writes || lost) || applied != writes && x.begun[a].ended {
			t.Fatalf("%+v writes %d words, the crash with choice %d leaves %d of them, and something that it has seen is lost: %v; it has finished: %v", a, writes, choice, applied, lost, x.begun[a].ended)
		}
	}
	if !slices.Equal(now.Words(), wanted) {
		t.Fatalf("the crash with choice %d leaves %v, wanted %v", choice, now.Words(), wanted)
	}
	return words
}

// P21.4: crashes at any time of random runs of durable swaps; behind some of them the threads make more swaps.
func TestCrashInRandomSchedules(t *testing.T) {
	succeeded, later := 0, 0
	for seed := range int64(40) {
		r := rand.New(rand.NewSource(seed))
		x := anyWatch(t, r, 4, true, seed%2 == 0)
		first := x.model
		for !x.world.Done() {
			x.anyStep(t, r, false)
			words := x.crash(t, first, choices()[r.Intn(len(choices()))])
			if r.Intn(8) > 0 {
				continue
			}
			later += x.goOn(t, r, words)
		}
		for _, w := range x.workers() {
			for _, k := range w.results {
				if k.answer {
					succeeded++
				}
			}
		}
	}
	if succeeded < 100 || later < 100 {
		t.Errorf("%d swaps succeeded, %d behind crashes", succeeded, later)
	}
}

// goOn lets the threads make the swaps that are left, and one more each, on the memory behind a crash, and then crashes
// again. It returns how many swaps have succeeded.
func (x *watch) goOn(t *testing.T, r *rand.Rand, words []api.Word) int {
	t.Helper()
	var orders [][]order
	for i, w := range x.workers() {
		own := order{[]change{add(x.layout.Record(i+1)+2, 1), read(x.layout.Cell(0))}, general, 40}
		orders = append(orders, append([]order{own}, w.orders...))
	}
	y := newWatch(t, x.layout, words, true, orders...)
	first := y.model
	for n := 5 + r.Intn(400); n > 0 && !y.world.Done(); n-- {
		y.anyStep(t, r, false)
	}
	y.crash(t, first, choices()[r.Intn(len(choices()))])
	succeeded := 0
	for i, w := range y.workers() {
		for _, k := range w.results {
			if k.answer {
				succeeded++
			}
		}
		if y.world.Tasks[i].Done() {
			want(t, "the first swap behind the crash succeeds at last", slices.ContainsFunc(w.results, func(k result) bool { return k.answer }), true)
		}
	}
	return succeeded
}
