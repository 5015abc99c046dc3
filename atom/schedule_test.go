package atom_test

import (
	"math/rand"
	"testing"

	"simulcast/api"
	"simulcast/atom"
	"simulcast/task"
)

// watch follows one run: when each thread made its first and last step, how often others have changed the word since its
// first one, and which words it held between.
type watch struct {
	world       task.World
	ops         []atom.Op
	now         int
	first, last []int // 0: not yet
	changes     []int
	held        [][]api.Word
}

func newWatch(t *testing.T, w api.Word, ops []atom.Op) watch {
	n := len(ops)
	return watch{world(t, []api.Word{w}, ops...), ops, 0, make([]int, n), make([]int, n), make([]int, n), make([][]api.Word, n)}
}

func (x watch) copied() watch {
	x.first, x.last, x.changes = append([]int{}, x.first...), append([]int{}, x.last...), append([]int{}, x.changes...)
	x.held = append([][]api.Word{}, x.held...)
	return x
}

// step lets a thread make one step, and checks what holds at every step.
func (x watch) step(t *testing.T, thread int) watch {
	t.Helper()
	x = x.copied()
	i := thread - 1
	before, _ := x.world.M.Word(0)
	a, _ := x.world.Tasks[i].Act()
	x.expectAct(t, i, a)
	next, ok := x.world.Step(api.Pick{Thread: thread, Choice: 3})
	if !ok {
		t.Fatalf("thread %d makes no step", thread)
	}
	x.world = next
	x.now++
	if x.first[i] == 0 {
		x.first[i] = x.now
	}
	after, _ := x.world.M.Word(0)
	for k := range x.ops {
		if k != i && x.first[k] > 0 && x.last[k] == 0 && after != before {
			x.changes[k]++
		}
		if x.first[k] > 0 && x.last[k] == 0 {
			x.held[k] = append(append([]api.Word{}, x.held[k]...), before)
		}
	}
	if x.world.Tasks[i].Done() {
		x.last[i] = x.now
		x.expectAnswered(t, i)
	}
	for k := range x.ops {
		x.expectTries(t, k)
	}
	return x
}

// expectAct checks the pending act of a thread against the results that it has had.
func (x watch) expectAct(t *testing.T, i int, a api.Act) {
	t.Helper()
	gots := x.world.Tasks[i].Gots()
	wanted := api.Act{Op: api.Look, At: x.ops[i].At}
	if len(gots) > 0 {
		seen := gots[len(gots)-1].Word
		wanted = api.Act{Op: api.Swap, At: x.ops[i].At, Old: seen, New: seen}
		wanted.New.Val, _ = atom.Do(x.ops[i], seen.Val)
		if len(gots) > 1 && gots[len(gots)-1].OK {
			t.Fatalf("%+v goes on after a successful swap", x.ops[i])
		}
	}
	if a != wanted {
		t.Fatalf("%+v after %v: %+v, wanted %+v", x.ops[i], gots, a, wanted)
	}
}

func (x watch) expectAnswered(t *testing.T, i int) {
	t.Helper()
	answer, ok := atom.Answer(x.world.Tasks[i].Code())
	if !ok {
		t.Fatalf("%+v has finished without an answer", x.ops[i])
	}
	for _, w := range x.held[i] {
		if _, result := atom.Do(x.ops[i], w.Val); result == answer {
			return
		}
	}
	t.Fatalf("%+v answers %d; the location held %v", x.ops[i], answer, x.held[i])
}

func (x watch) expectTries(t *testing.T, i int) {
	t.Helper()
	c, gots := x.world.Tasks[i].Code(), x.world.Tasks[i].Gots()
	if tries := atom.Tries(c); tries != max(0, len(gots)-1) || tries > x.changes[i]+1 {
		t.Fatalf("%+v: Tries %d after %d acts and %d changes", x.ops[i], tries, len(gots), x.changes[i])
	}
	if a, ok := atom.Answer(c); !x.world.Tasks[i].Done() && (a != 0 || ok) {
		t.Fatalf("%+v has not finished, and answers %d", x.ops[i], a)
	}
}

// expectAlone checks that each thread that has not finished would finish alone from here within four steps.
func (x watch) expectAlone(t *testing.T) {
	t.Helper()
	for i := range x.ops {
		if w, ok := x.world.Alone(i+1, 4); !ok {
			t.Fatalf("%+v has not finished alone: %v", x.ops[i], w.Tasks[i].Gots())
		}
	}
}

// every calls end with each run that a schedule can lead to.
func (x watch) every(t *testing.T, end func(x watch)) {
	t.Helper()
	x.expectAlone(t)
	if x.world.Done() {
		end(x)
		return
	}
	for i, task := range x.world.Tasks {
		if !task.Done() {
			x.step(t, i+1).every(t, end)
		}
	}
}

// linear reports whether some order of the operations that agrees with the times of their steps gives their answers and
// the last word.
func (x watch) linear(v int64, left []int) bool {
	if len(left) == 0 {
		w, _ := x.world.M.Word(0)
		return w.Val == v
	}
	for k, i := range left {
		rest := append(append([]int{}, left[:k]...), left[k+1:]...)
		next, result := atom.Do(x.ops[i], v)
		if answer, _ := atom.Answer(x.world.Tasks[i].Code()); answer == result && x.mayLead(i, rest) && x.linear(next, rest) {
			return true
		}
	}
	return false
}

// mayLead reports whether none of the others had ended before operation i began.
func (x watch) mayLead(i int, others []int) bool {
	for _, k := range others {
		if x.last[k] < x.first[i] {
			return false
		}
	}
	return true
}

func expectLinear(t *testing.T, x watch, first int64) {
	t.Helper()
	var left []int
	var answers []int64
	for i := range x.ops {
		left = append(left, i)
		a, _ := atom.Answer(x.world.Tasks[i].Code())
		answers = append(answers, a)
	}
	if !x.linear(first, left) {
		w, _ := x.world.M.Word(0)
		t.Fatalf("%+v on %d: no order gives %v and the word %+v (steps %v to %v)", x.ops, first, answers, w, x.first, x.last)
	}
}

func sum(l []atom.Op) int64 {
	n := int64(0)
	for _, o := range l {
		n += o.N
	}
	return n
}

// P10.2, P10.3, P10.4: additions under every schedule: each is in the sum once, and the answers fit an order of them.
func TestEverySchedule(t *testing.T) {
	ops := []atom.Op{{Kind: atom.Add, N: 1}, {Kind: atom.Add, N: 10}, {Kind: atom.Add, N: 100}}
	runs := 0
	newWatch(t, api.Word{Val: 7, Ver: 2}, ops).every(t, func(x watch) {
		runs++
		if w, _ := x.world.M.Word(0); w != (api.Word{Val: 7 + sum(ops), Ver: 2}) {
			t.Fatalf("the sum is %+v", w)
		}
		expectLinear(t, x, 7)
	})
	if runs < 100 {
		t.Errorf("%d schedules", runs)
	}
}

// P10.4: of claims on a word that was 0 exactly one returns 0, and the others return what it has put.
func TestEveryScheduleOfClaims(t *testing.T) {
	ops := []atom.Op{{Kind: atom.Claim, N: 4}, {Kind: atom.Claim, N: -5}, {Kind: atom.Claim, N: 6}}
	winners := map[int64]bool{}
	newWatch(t, api.Word{}, ops).every(t, func(x watch) {
		won := 0
		w, _ := x.world.M.Word(0)
		for i, o := range ops {
			switch a, _ := atom.Answer(x.world.Tasks[i].Code()); {
			case a == 0 && w.Val == o.N:
				won++
			case a != w.Val:
				t.Fatalf("%+v answers %d, the word is %d", o, a, w.Val)
			}
		}
		if won != 1 {
			t.Fatalf("%d claims have won", won)
		}
		winners[w.Val] = true
		expectLinear(t, x, 0)
	})
	if len(winners) != len(ops) {
		t.Errorf("only %v have won", winners)
	}
}

// P10.4: of Most operations the greatest remains.
func TestEveryScheduleOfMost(t *testing.T) {
	ops := []atom.Op{{Kind: atom.Most, N: 4}, {Kind: atom.Most, N: 9}, {Kind: atom.Most, N: -5}}
	for first, wanted := range map[int64]int64{-10: 9, 0: 9, 9: 9, 20: 20} {
		newWatch(t, api.Word{Val: first, Ref: 5}, ops).every(t, func(x watch) {
			if w, _ := x.world.M.Word(0); w != (api.Word{Val: wanted, Ref: 5}) {
				t.Fatalf("from %d: %+v", first, w)
			}
			expectLinear(t, x, first)
		})
	}
}

// P10.4: claims that have finished, while others are stopped in the middle: at most one of them returns 0, and exactly one
// if the word is no longer 0 by one of them.
func TestStoppedClaims(t *testing.T) {
	ops := []atom.Op{{Kind: atom.Claim, N: 4}, {Kind: atom.Claim, N: 5}, {Kind: atom.Claim, N: 6}}
	for before := range 2 {
		w := world(t, []api.Word{{}}, ops...)
		for range before {
			w = w.Run(api.Pick{Thread: 1})
		}
		w = w.Run(api.Pick{Kind: api.PickStop, Thread: 1}, api.Pick{Thread: 2}, api.Pick{Thread: 3}, api.Pick{Thread: 3})
		w, ok := w.Alone(2, 4)
		if got, _ := w.M.Word(0); !ok || !w.Done() || got != (api.Word{Val: 6}) {
			t.Errorf("finished %v, the word is %+v", ok, got)
		}
		if a, ok := atom.Answer(w.Tasks[1].Code()); a != 6 || !ok {
			t.Errorf("thread 2: %d, %v", a, ok)
		}
		if a, ok := atom.Answer(w.Tasks[2].Code()); a != 0 || !ok {
			t.Errorf("thread 3: %d, %v", a, ok)
		}
		expectUnfinished(t, "stopped", w.Tasks[0].Code(), 0)
	}
}

func anyOp(r *rand.Rand) atom.Op {
	o := atom.Op{Kind: r.Intn(4), N: values[r.Intn(len(values))]}
	if r.Intn(2) == 0 {
		o.N = r.Int63n(4)
	}
	if o.Check() != api.OK {
		o.N = 3
	}
	return o
}

// P10.2 to P10.4: random operations of up to 8 threads under random schedules have an order that gives their answers.
func TestRandomSchedules(t *testing.T) {
	for seed := range int64(400) {
		r := rand.New(rand.NewSource(seed))
		ops := make([]atom.Op, 1+r.Intn(api.MaxThreads))
		for i := range ops {
			ops[i] = anyOp(r)
		}
		first := r.Int63n(3)
		x := newWatch(t, api.Word{Val: first, Ver: uint32(r.Intn(2)), Ref: uint32(r.Intn(2))}, ops)
		word, _ := x.world.M.Word(0)
		for !x.world.Done() {
			if i := r.Intn(len(ops)); !x.world.Tasks[i].Done() {
				x = x.step(t, i+1)
				x.expectAlone(t)
			}
		}
		expectLinear(t, x, first)
		if got, _ := x.world.M.Word(0); got.Ver != word.Ver || got.Ref != word.Ref {
			t.Fatalf("seed %d: %+v became %+v", seed, word, got)
		}
	}
}

// P10.4: eight threads that add one after another, again and again, lose nothing; the sum wraps.
func TestManyAdditions(t *testing.T) {
	for seed := range int64(20) {
		r := rand.New(rand.NewSource(seed))
		v := int64(1<<63 - 20)
		wanted := v
		for range 10 {
			ops := make([]atom.Op, api.MaxThreads)
			for i := range ops {
				ops[i] = atom.Op{Kind: atom.Add, N: r.Int63n(9) - 2}
				wanted = wrapped(wanted, ops[i].N)
			}
			w := world(t, []api.Word{{Val: v}}, ops...)
			for !w.Done() {
				w, _ = w.Step(api.Pick{Thread: 1 + r.Intn(len(ops)), Choice: r.Intn(4)})
			}
			got, _ := w.M.Word(0)
			v = got.Val
		}
		if v != wanted {
			t.Fatalf("seed %d: the sum is %d, wanted %d", seed, v, wanted)
		}
	}
}
