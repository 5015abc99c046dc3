package machine_test

import (
	"math/rand"
	"slices"
	"testing"

	"simulcast/api"
	"simulcast/line"
	"simulcast/machine"
	"simulcast/memory"
)

const (
	threads = 3
	places  = 12
)

// plain is the machine once more: the table of the chapter on the two layers below, changed in place.
type plain struct {
	memory  memory.Memory
	lines   line.Lines
	steps   [threads + 1]int
	crashes int
	own     [threads + 1][places]int // how many messages of a location were there after the thread's last write of it
}

func newPlain() *plain {
	p := &plain{}
	p.memory, _ = memory.New(threads, make([]api.Word, places)...)
	p.lines, _ = line.New(make([]api.Word, places)...)
	return p
}

func (p *plain) wrote(t int, a api.Act) {
	p.lines, _ = p.lines.Store(a.At, a.New)
	h, _ := p.memory.History(a.At)
	p.own[t][a.At] = h.Len()
}

func (p *plain) do(t int, a api.Act, choice int) (got api.Got) {
	p.steps[t]++
	got.OK = true
	switch a.Op {
	case 1:
		p.memory, got.Word, _ = p.memory.Load(t, a.At, false, choice)
	case 2:
		p.memory, got.Word, _ = p.memory.Load(t, a.At, true, choice)
	case 3:
		p.memory, _ = p.memory.Store(t, a.At, a.New, false)
		p.wrote(t, a)
	case 4:
		p.memory, _ = p.memory.Store(t, a.At, a.New, true)
		p.wrote(t, a)
	case 5:
		p.memory, got.Word, _ = p.memory.Look(t, a.At)
	case 6:
		p.memory, got.Word, got.OK, _ = p.memory.Swap(t, a.At, a.Old, a.New)
		if got.OK {
			p.wrote(t, a)
		}
	case 7:
		p.lines, _ = p.lines.Flush(t, a.At)
	case 8:
		p.lines, _ = p.lines.Sync(t)
	}
	return got
}

func (p *plain) crash(choice int) {
	words := p.lines.Crash(choice)
	p.memory, _ = memory.New(threads, words...)
	p.lines, _ = line.New(words...)
	p.own = [threads + 1][places]int{}
	p.crashes++
}

func compare(t *testing.T, m machine.Machine, p *plain, seed int64) {
	t.Helper()
	if !sameMemory(m.Memory(), p.memory) || !sameLines(m.Lines(), p.lines, places) {
		t.Fatalf("seed %d: another memory or other lines", seed)
	}
	for i, n := range p.steps {
		if m.Steps(i) != n {
			t.Fatalf("seed %d: Steps(%d) = %d, wanted %d", seed, i, m.Steps(i), n)
		}
	}
	if m.Crashes() != p.crashes || !slices.Equal(m.Least(), p.lines.Least()) {
		t.Fatalf("seed %d: %d crashes, Least %v", seed, m.Crashes(), m.Least())
	}
	for i, w := range m.Words() {
		h, _ := p.memory.History(api.Loc(i))
		x, ok := m.Word(api.Loc(i))
		if w != h.Last().Word || x != w || !ok {
			t.Fatalf("seed %d: the word at %d is %v and %v", seed, i, w, x)
		}
	}
}

func anyAct(r *rand.Rand, m machine.Machine) api.Act {
	a := api.Act{Op: r.Intn(9), At: api.Loc(r.Intn(places)), New: api.Word{Val: r.Int63n(3), Ver: uint32(r.Intn(2)), Ref: uint32(r.Intn(2))}}
	a.Old, _ = m.Word(a.At)
	if r.Intn(3) == 0 {
		a.Old = val(r.Int63n(3))
	}
	return a
}

// checkRead holds a result against what P6.5 says of reads.
func checkRead(t *testing.T, m machine.Machine, own, thread int, a api.Act, got api.Got, seed int64) {
	t.Helper()
	last, _ := m.Word(a.At)
	if (a.Op == api.Look || a.Op == api.Swap) && got.Word != last {
		t.Fatalf("seed %d: op %d reads %v, not the last word %v", seed, a.Op, got.Word, last)
	}
	if a.Op != api.Load && a.Op != api.Acquire {
		return
	}
	h, _ := m.Memory().History(a.At)
	for i := max(own-1, 0); i < h.Len(); i++ {
		if message, _ := h.At(i); message.Word == got.Word {
			return
		}
	}
	t.Fatalf("seed %d: thread %d reads %v at %d, older than its own store", seed, thread, got.Word, a.At)
}

// P6.2 to P6.5: long runs with crashes, held against the plain machine; no machine on the way changes afterwards.
func TestRandomRuns(t *testing.T) {
	for seed := range int64(30) {
		r := rand.New(rand.NewSource(seed))
		m, p := fresh(t, threads, places), newPlain()
		var elder, copies []machine.Machine
		for i := range 150 {
			if i%10 == 0 {
				elder, copies = append(elder, m), append(copies, replay(t, seed, i))
			}
			if r.Intn(30) == 0 {
				choice := r.Intn(40) - 3
				m = m.Crash(choice)
				p.crash(choice)
			} else {
				thread, a, choice := 1+r.Intn(threads), anyAct(r, m), r.Intn(6)-1
				own := p.own[thread][a.At]
				n, got := do(t, m, thread, a, choice)
				if wanted := p.do(thread, a, choice); got != wanted {
					t.Fatalf("seed %d, step %d: %+v gets %+v, wanted %+v", seed, i, a, got, wanted)
				}
				checkRead(t, m, own, thread, a, got, seed)
				m = n
			}
			compare(t, m, p, seed)
		}
		for i, x := range elder {
			if !same(x, copies[i]) {
				t.Fatalf("seed %d: the machine before step %d has changed", seed, i*10)
			}
		}
	}
}

// replay runs the first steps of a random run once more, so that its machine shares nothing with that of the run.
func replay(t *testing.T, seed int64, steps int) machine.Machine {
	t.Helper()
	r := rand.New(rand.NewSource(seed))
	m := fresh(t, threads, places)
	for range steps {
		if r.Intn(30) == 0 {
			m = m.Crash(r.Intn(40) - 3)
			continue
		}
		thread, a, choice := 1+r.Intn(threads), anyAct(r, m), r.Intn(6)-1
		m, _ = do(t, m, thread, a, choice)
	}
	return m
}

// P6.2: two machines made from one do not see each other's actions.
func TestBranches(t *testing.T) {
	m := after(t, fresh(t, 2, 8), 1, store(0, 1), act(api.Flush, 0), store(0, 2))
	before := after(t, fresh(t, 2, 8), 1, store(0, 1), act(api.Flush, 0), store(0, 2))
	a := after(t, m, 1, store(0, 3), act(api.Sync, 0))
	b := after(t, m, 2, store(0, 4), store(1, 5), act(api.Flush, 0), act(api.Sync, 0))
	c := m.Crash(-1)
	if !same(m, before) {
		t.Error("the first machine has changed")
	}
	if a.Words()[0] != val(3) || a.Least()[0] != val(1) || a.Steps(1) != 5 || a.Steps(2) != 0 {
		t.Errorf("first branch: %v, %v", a.Words(), a.Least())
	}
	if b.Words()[0] != val(4) || b.Least()[0] != val(4) || b.Steps(1) != 3 || b.Steps(2) != 4 {
		t.Errorf("second branch: %v, %v", b.Words(), b.Least())
	}
	if c.Words()[0] != val(0) || c.Steps(1) != 3 || m.Crashes() != 0 {
		t.Errorf("third branch: %v", c.Words())
	}
}
