package help_test

import (
	"math/rand"
	"slices"
	"testing"

	"simulcast/api"
	"simulcast/desc"
	"simulcast/layout"
	"simulcast/machine"
	"simulcast/task"
)

// choices are those of a crash: nothing that is not guaranteed survives, all of it, and parts.
func choices() []int {
	all := []int{-1, -2}
	for i := range 12 {
		all = append(all, 7*i)
	}
	return all
}

// P20.3: a crash behind each act of a durable help, with some of the locations in records and far apart: the operation
// has taken effect completely or not at all, and once the help is done, completely; the help can be repeated afterwards.
func TestCrashBehindEachAct(t *testing.T) {
	l := layout.Layout{Threads: 2, Cells: 40, Blocks: 1}
	for _, who := range []int{1, 2, 9} {
		list := []api.Entry{written(recordAt(l, 2, 1), 3, 1, 4), unwritten(cellAt(l, 3), 5, 2), written(cellAt(l, 4), 6, 7, 8), written(cellAt(l, 39), 0, 0, 1)}
		for fails := -1; fails < len(list); fails++ {
			o := op{who, 7, open, list}
			m := scene(l, o)
			if fails >= 0 {
				m[list[fails].At].Val = 99
			}
			w, _ := machine.New(2, m...)
			v, _ := task.Make(w, newHelp(t, l, o.ref(), true))
			for kept := map[bool]int{}; ; {
				for _, choice := range choices() {
					crashed := v.M.Crash(choice)
					kept[effect(t, l, crashed.Words(), o, fails >= 0)]++
					if v.Done() && fails < 0 && !effect(t, l, crashed.Words(), o, false) {
						t.Fatalf("the help has ended, and a crash with choice %d loses its effect", choice)
					}
					again, _ := task.Make(crashed, newHelp(t, l, o.ref(), true))
					again, _ = again.Alone(1, 100)
					expectState(t, "the help after the crash", again.Tasks[0].Code(), map[bool]int{false: done, true: failed}[fails >= 0], true, 0)
					want(t, "the effect", effect(t, l, again.M.Crash(-1).Words(), o, fails >= 0), fails < 0)
				}
				if v.Done() {
					if fails < 0 && (kept[true] < 20 || kept[false] < 20) {
						t.Errorf("%d crashes have kept the effect, %d have not", kept[true], kept[false])
					}
					break
				}
				v = v.Run(api.Pick{Thread: 1})
			}
		}
	}
}

// effect reports whether the operation has taken effect in a memory, and checks that it has done so completely or not at
// all.
func effect(t *testing.T, l layout.Layout, words []api.Word, o op, fails bool) bool {
	t.Helper()
	n, writes := 0, 0
	for _, e := range o.entries {
		w, err := desc.Logical(l, words, e.At)
		if err != api.OK {
			t.Fatal("Logical:", err)
		}
		switch {
		case !e.Write:
		case w == after(e):
			n, writes = n+1, writes+1
		default:
			writes++
			if !fails && w != e.Old {
				t.Fatalf("location %d is %+v", e.At, w)
			}
		}
	}
	if n != 0 && n != writes || n != 0 && fails {
		t.Fatalf("%d of %d words have changed", n, writes)
	}
	return n > 0
}

// crash checks the memory behind a crash in the middle of a run of durable helps: it is one that the operations which
// are done have led to, each of them completely or not at all, and those of which a help has ended completely.
func (x *watch) crash(t *testing.T, first []api.Word, choice int) []api.Word {
	t.Helper()
	words := x.world.M.Crash(choice).Words()
	logical := x.logicals(t, words)
	find := func(at api.Loc) api.Word {
		i, _ := slices.BinarySearch(places(x.layout), at)
		return logical[i]
	}
	wanted := slices.Clone(first) // by location: what the last operation that has written it has left there
	for r, list := range x.entries {
		applied := 0
		for _, e := range list {
			switch {
			case find(e.At).Ver > e.Old.Ver && e.Write && x.decision[r] == done:
				applied++
				if i, _ := slices.BinarySearch(places(x.layout), e.At); find(e.At).Ver == e.Old.Ver+1 {
					wanted[i] = after(e)
				}
			case e.Write && applied > 0:
				t.Fatalf("%x expects %+v, the crash with choice %d leaves %+v", r, list, choice, logical)
			}
		}
		writes := 0
		for _, e := range list {
			if e.Write {
				writes++
			}
			if applied > 0 && find(e.At).Ver < e.Old.Ver {
				t.Fatalf("%x has seen %+v, which is lost: %+v", r, e, find(e.At))
			}
		}
		if applied != 0 && applied != writes || applied != writes && x.reported[r] {
			t.Fatalf("%x writes %d words, the crash with choice %d leaves %d of them; a help has ended: %v", r, writes, choice, applied, x.reported[r])
		}
	}
	if !slices.Equal(logical, wanted) {
		t.Fatalf("the crash with choice %d leaves %+v, wanted %+v", choice, logical, wanted)
	}
	return words
}

// opsIn returns the operations that lie in a memory, open or decided.
func opsIn(l layout.Layout, words []api.Word) []op {
	var ops []op
	for who := 1; who <= 72; who++ {
		if d, e := desc.Read(l, words, who); e == api.OK && d.Status != filling {
			ops = append(ops, op{who, d.Seq, d.Status, d.Entries})
		}
	}
	return ops
}

// P20.2, P20.3: crashes at any time of random runs of durable helps; then threads that know of nothing but the locations
// complete what they find.
func TestCrashInRandomSchedules(t *testing.T) {
	reported, reopened := 0, 0
	for seed := range int64(60) {
		r := rand.New(rand.NewSource(seed))
		x := anyWatch(t, r, 4, true)
		first := slices.Clone(x.logical)
		sum := sumOf(first)
		for !x.world.Done() {
			i := r.Intn(x.layout.Threads)
			for n := r.Intn(20); n > 0 && !x.world.Tasks[i].Done(); n-- {
				x.step(t, i+1, r.Intn(6))
			}
			words := x.crash(t, first, choices()[r.Intn(len(choices()))])
			if r.Intn(8) > 0 {
				continue
			}
			ops := opsIn(x.layout, words)
			var all []order
			for _, at := range places(x.layout) {
				all = append(all, seeing(at))
			}
			y := newWatch(t, x.layout, words, ops, true, all)
			before := len(y.decision)
			y.steps(t, 1, 5000)
			want(t, "done behind the crash", y.world.Done(), true)
			y.expectFree(t)
			want(t, "the sum of the words behind the crash", sumOf(y.logical), sum)
			reopened += len(y.decision) - before
		}
		reported += len(x.reported)
	}
	if reported < 100 || reopened < 20 {
		t.Errorf("%d operations were reported, %d decided behind a crash", reported, reopened)
	}
}
