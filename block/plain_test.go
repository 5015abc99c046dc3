package block_test

import (
	"iter"
	"math"
	"testing"

	"simulcast/api"
	"simulcast/arena"
	"simulcast/block"
	"simulcast/desc"
	"simulcast/help"
	"simulcast/layout"
	"simulcast/task"
)

// want reports a difference.
func want[T comparable](t *testing.T, what string, got, wanted T) {
	t.Helper()
	if got != wanted {
		t.Errorf("%s: %v, wanted %v", what, got, wanted)
	}
}

// Statuses.
const (
	open    = 0
	done    = 1
	failed  = 2
	filling = 3
)

// places returns the locations that a swap may change, in order.
func places(l layout.Layout) []api.Loc {
	var all []api.Loc
	for at := range l.Slot(1) {
		if l.May(at) {
			all = append(all, at)
		}
	}
	return all
}

func ref(who, seq int) uint32 { return uint32(who<<24 + seq) }

// plain has the chapter's algorithm as a program that waits for the result of each of its acts.
type plain struct {
	layout  layout.Layout
	durable bool
	do      func(api.Act) api.Got
	who     int // 9 plus the number of the block that is held
}

func (p *plain) release(at api.Loc, status, seq int) {
	p.do(api.Act{Op: 4, At: at, New: api.Word{Val: int64(status), Ver: uint32(seq)}})
	p.persist(at)
}

// persist is a Flush of each location and a Sync, in durable mode.
func (p *plain) persist(at ...api.Loc) {
	if !p.durable {
		return
	}
	for _, a := range at {
		p.do(api.Act{Op: 7, At: a})
	}
	p.do(api.Act{Op: 8})
}

// run runs a code of another layer, which has tests of its acts.
func (p *plain) run(c task.Code) task.Code {
	next, act, finished := c.Next(api.Got{})
	for !finished {
		next, act, finished = next.Next(p.do(act))
	}
	return next
}

// swap does the seven steps, and returns whether the swap is done, and the error.
func (p *plain) swap(list []api.Entry) (bool, api.Errno) {
	take, _ := arena.Take(p.layout, 0)
	number, e, _ := arena.Block(p.run(take))
	if e != api.OK {
		return false, api.ErrFull
	}
	p.who = 9 + number
	at := p.layout.Block(number)
	w := p.do(api.Act{Op: 5, At: at}).Word
	if w.Ver >= 1<<24-1 {
		p.give(number)
		return false, api.ErrFull
	}
	seq := int(w.Ver) + 1
	p.release(at, filling, seq)
	p.fill(at, list)
	p.release(at, open, seq)
	c, _ := help.New(p.layout, ref(9+number, seq), p.durable)
	status, _ := help.Status(p.run(c))
	p.give(number)
	return status == done, api.OK
}

func (p *plain) fill(block api.Loc, list []api.Entry) {
	lines := []api.Loc{block}
	store := func(at api.Loc, w api.Word) {
		p.do(api.Act{Op: 3, At: at, New: w})
		if at%8 == 0 {
			lines = append(lines, at)
		}
	}
	store(block+1, api.Word{Val: int64(len(list))})
	for i, e := range list {
		first := api.Word{Val: int64(e.At)}
		if e.Write {
			first.Ver = 1
		}
		at := block + 2 + api.Loc(3*i)
		store(at, first)
		store(at+1, api.Word{Val: e.Old.Val, Ver: e.Old.Ver})
		store(at+2, api.Word{Val: e.New})
	}
	p.persist(lines...)
}

func (p *plain) give(number int) {
	p.who = 0
	give, _ := arena.Give(p.layout, number)
	p.run(give)
}

// outcome is what Answer and Who tell of a code.
type outcome struct {
	done  bool
	err   api.Errno
	ended bool
	who   int
}

func outcomeOf(c task.Code) outcome {
	answer, e, ended := block.Answer(c)
	return outcome{answer, e, ended, block.Who(c)}
}

// oracle runs the algorithm act by act.
type oracle struct {
	next func() (api.Act, bool)
	stop func()
	got  api.Got // of the last act
	now  outcome
}

type stopped struct{}

func newOracle(l layout.Layout, durable bool, list []api.Entry) *oracle {
	o := &oracle{}
	o.next, o.stop = iter.Pull(func(yield func(api.Act) bool) {
		defer func() {
			if r := recover(); r != nil && r != (stopped{}) {
				panic(r)
			}
		}()
		p := &plain{layout: l, durable: durable}
		p.do = func(a api.Act) api.Got {
			o.now = outcome{who: p.who}
			if !yield(a) {
				panic(stopped{})
			}
			return o.got
		}
		d, e := p.swap(list)
		o.now = outcome{d, e, true, 0}
	})
	return o
}

// newSwap returns the code of a swap that New accepts.
func newSwap(t *testing.T, l layout.Layout, durable bool, list ...api.Entry) task.Code {
	t.Helper()
	c, e := block.New(l, durable, list...)
	if c == nil || e != api.OK {
		t.Fatalf("New of %+v in %+v: %v, %d", list, l, c, e)
	}
	return c
}

// expectOutcome checks what Answer and Who return.
func expectOutcome(t *testing.T, what string, c task.Code, wanted outcome) {
	t.Helper()
	if o := outcomeOf(c); o != wanted {
		t.Fatalf("%s: Answer and Who %+v, wanted %+v", what, o, wanted)
	}
}

// trace is what a swap has done.
type trace struct {
	acts []api.Act
	who  []int   // which block it held ahead of each act
	end  outcome // zero if the swap has been left after so many acts
}

// alike reports whether two acts are the same. Which location of a cache line a Flush names makes no difference.
func alike(a, b api.Act) bool {
	if a.Op == api.Flush && b.Op == api.Flush {
		a.At, b.At = a.At/8, b.At/8
	}
	return a == b
}

// follow runs a swap whose acts have the given results, and holds each of its acts against the algorithm.
func follow(t *testing.T, what string, l layout.Layout, durable bool, list []api.Entry, most int, answer func(api.Act) api.Got) trace {
	t.Helper()
	c := newSwap(t, l, durable, list...)
	o := newOracle(l, durable, list)
	defer o.stop()
	x := trace{}
	expectOutcome(t, what+", behind New", c, outcome{})
	for len(x.acts) < most {
		next, act, finished := c.Next(o.got)
		wanted, more := o.next()
		if finished == more || more && !alike(act, wanted) {
			t.Fatalf("%s: act %d is %+v, finished %v, wanted %+v, %v; the acts before: %+v", what, len(x.acts), act, finished, wanted, !more, x.acts)
		}
		expectOutcome(t, what, next, o.now)
		if finished {
			x.end = o.now
			expectEnd(t, what, next, x.end)
			return x
		}
		x.acts, x.who = append(x.acts, act), append(x.who, o.now.who)
		c, o.got = next, answer(act)
	}
	return x
}

// expectEnd checks that a swap has finished for ever.
func expectEnd(t *testing.T, what string, c task.Code, wanted outcome) {
	t.Helper()
	for _, g := range []api.Got{{}, {OK: true}, {Word: api.Word{Val: 1, Ver: 1}, OK: true}} {
		next, _, finished := c.Next(g)
		if !finished {
			t.Fatalf("%s: goes on behind its end", what)
		}
		expectOutcome(t, what, next, wanted)
		c = next
	}
}

// image is a memory that does each act at once.
type image []api.Word

func (m image) answer(a api.Act) api.Got {
	if a.Op == api.Sync {
		return api.Got{OK: true}
	}
	if a.At < 0 || int(a.At) >= len(m) {
		return api.Got{}
	}
	switch a.Op {
	case api.Load, api.Look:
		return api.Got{Word: m[a.At], OK: true}
	case api.Store, api.Release:
		m[a.At] = a.New
	case api.Swap:
		w := m[a.At]
		if w == a.Old {
			m[a.At] = a.New
		}
		return api.Got{Word: w, OK: w == a.Old}
	}
	return api.Got{OK: true}
}

// run lets a swap run alone on a memory, in place.
func (m image) run(t *testing.T, what string, l layout.Layout, durable bool, list ...api.Entry) trace {
	t.Helper()
	x := follow(t, what, l, durable, list, 20000, m.answer)
	if !x.end.ended {
		t.Fatalf("%s: not finished after %d acts", what, len(x.acts))
	}
	return x
}

// expect checks what a memory holds.
func (m image) expect(t *testing.T, what string, wanted image) {
	t.Helper()
	for at := range wanted {
		if m[at] != wanted[at] {
			t.Fatalf("%s: location %d is %+v, wanted %+v", what, at, m[at], wanted[at])
		}
	}
}

// used sets which blocks are used, in place.
func (m image) used(t *testing.T, l layout.Layout, numbers ...int) {
	t.Helper()
	marked, e := arena.Mark(l, m, numbers...)
	if e != api.OK {
		t.Fatal("Mark:", e)
	}
	copy(m, marked)
}

// op returns the descriptor of an operation.
func op(who, seq, status int, list ...api.Entry) desc.Desc {
	return desc.Desc{Who: who, Seq: seq, Status: status, Entries: list}
}

func refOf(d desc.Desc) uint32 { return ref(d.Who, d.Seq) }

// scene returns a memory in which these entries find what they expect.
func scene(l layout.Layout, list ...api.Entry) image {
	m := image(l.First())
	for _, e := range list {
		m[e.At] = e.Old
	}
	return m
}

// put writes the descriptor of an operation, and installs it in the first n of its locations.
func (m image) put(t *testing.T, l layout.Layout, d desc.Desc, n int) {
	t.Helper()
	words, e := desc.Words(l, d)
	if e != api.OK {
		t.Fatal("Words:", e)
	}
	at, _ := l.Place(d.Who)
	copy(m[at:], words)
	for _, e := range d.Entries[:n] {
		m[e.At] = api.Word{Val: e.Old.Val, Ver: e.Old.Ver, Ref: refOf(d)}
	}
}

func written(at api.Loc, v int64, ver uint32, new int64) api.Entry {
	return api.Entry{At: at, Old: api.Word{Val: v, Ver: ver}, New: new, Write: true}
}

func unwritten(at api.Loc, v int64, ver uint32) api.Entry {
	return api.Entry{At: at, Old: api.Word{Val: v, Ver: ver}, New: v}
}

// after returns the word of an entry's location once the swap is done.
func after(e api.Entry) api.Word {
	if e.Write {
		return api.Word{Val: e.New, Ver: e.Old.Ver + 1}
	}
	return e.Old
}

// list returns n entries at the locations of the layout from the given one on, every third of them not written.
func list(l layout.Layout, n, from int) []api.Entry {
	var all []api.Entry
	for i, at := range places(l)[from : from+n] {
		e := written(at, int64(100+i), uint32(i), int64(-i))
		if i%3 == 2 {
			e = unwritten(at, int64(100+i), math.MaxUint32)
		}
		all = append(all, e)
	}
	return all
}
