package swap_test

import (
	"iter"
	"math"
	"testing"

	"simulcast/api"
	"simulcast/desc"
	"simulcast/help"
	"simulcast/layout"
	"simulcast/swap"
	"simulcast/task"
	"simulcast/word"
)

// want reports a difference.
func want[T comparable](t *testing.T, what string, got, wanted T) {
	t.Helper()
	if got != wanted {
		t.Errorf("%s: %v, wanted %v", what, got, wanted)
	}
}

// Statuses.
const (
	open    = 0
	done    = 1
	failed  = 2
	filling = 3
	stale   = 4
)

// placeOf returns the location of a slot or block.
func placeOf(l layout.Layout, who int) api.Loc {
	at, _ := l.Place(who)
	return at
}

// places returns the locations that a swap may change, in order.
func places(l layout.Layout) []api.Loc {
	var all []api.Loc
	for at := range l.Slot(1) {
		if l.May(at) {
			all = append(all, at)
		}
	}
	return all
}

func ref(who, seq int) uint32 { return uint32(who<<24 + seq) }

// owned reports whether a reference is valid, and its owner a slot or block of the layout.
func owned(l layout.Layout, ref uint32) bool {
	who, _ := word.Who(ref)
	return placeOf(l, who) >= 0
}

// plain has the chapter's definitions as programs that wait for the result of each of their acts.
type plain struct {
	layout  layout.Layout
	durable bool
	do      func(api.Act) api.Got
}

func (p *plain) look(at api.Loc) api.Word { return p.do(api.Act{Op: 5, At: at}).Word }

func (p *plain) release(at api.Loc, status, seq int) {
	p.do(api.Act{Op: 4, At: at, New: api.Word{Val: int64(status), Ver: uint32(seq)}})
	p.persist(at)
}

// persist is a Flush of each location and a Sync, in durable mode.
func (p *plain) persist(at ...api.Loc) {
	if !p.durable {
		return
	}
	for _, a := range at {
		p.do(api.Act{Op: 7, At: a})
	}
	p.do(api.Act{Op: 8})
}

// help runs a help, whose acts package help has tests of.
func (p *plain) help(ref uint32) int {
	c, _ := help.New(p.layout, ref, p.durable)
	next, act, finished := c.Next(api.Got{})
	for !finished {
		next, act, finished = next.Next(p.do(act))
	}
	status, _ := help.Status(next)
	return status
}

// swap does the six steps, and reports whether the swap succeeds.
func (p *plain) swap(thread, seq int, list []api.Entry) bool {
	slot := p.layout.Slot(thread)
	last := p.look(slot)
	if int64(last.Ver) >= int64(seq) {
		return false
	}
	if last.Ver > 0 && (last.Val == open || last.Val == done) {
		p.help(ref(thread, int(last.Ver)))
	}
	p.release(slot, filling, seq)
	lines := []api.Loc{slot}
	store := func(at api.Loc, w api.Word) {
		p.do(api.Act{Op: 3, At: at, New: w})
		if at%8 == 0 {
			lines = append(lines, at)
		}
	}
	store(slot+1, api.Word{Val: int64(len(list))})
	for i, e := range list {
		first := api.Word{Val: int64(e.At)}
		if e.Write {
			first.Ver = 1
		}
		at := slot + 2 + api.Loc(3*i)
		store(at, first)
		store(at+1, api.Word{Val: e.Old.Val, Ver: e.Old.Ver})
		store(at+2, api.Word{Val: e.New})
	}
	p.persist(lines...)
	p.release(slot, open, seq)
	return p.help(ref(thread, seq)) == done
}

// simple reports whether the swap of one word succeeds.
func (p *plain) simple(e api.Entry) bool {
	w := p.look(e.At)
	for {
		if owned(p.layout, w.Ref) {
			if p.help(w.Ref) == stale {
				p.do(api.Act{Op: 6, At: e.At, Old: w, New: api.Word{Val: w.Val, Ver: w.Ver}})
			}
			w = p.look(e.At)
			continue
		}
		if w.Val != e.Old.Val || w.Ver != e.Old.Ver {
			p.persist(e.At)
			return false
		}
		g := p.do(api.Act{Op: 6, At: e.At, Old: w, New: api.Word{Val: e.New, Ver: w.Ver + 1}})
		if g.OK {
			p.persist(e.At)
			return true
		}
		w = g.Word
	}
}

// program is one of the definitions, with its arguments.
type program func(p *plain) bool

func swapping(thread, seq int, list ...api.Entry) program {
	return func(p *plain) bool { return p.swap(thread, seq, list) }
}

func simply(e api.Entry) program {
	return func(p *plain) bool { return p.simple(e) }
}

// oracle runs a definition act by act.
type oracle struct {
	next   func() (api.Act, bool)
	stop   func()
	got    api.Got // of the last act
	answer bool    // at the end
}

type stopped struct{}

func newOracle(l layout.Layout, durable bool, x program) *oracle {
	o := &oracle{}
	o.next, o.stop = iter.Pull(func(yield func(api.Act) bool) {
		defer func() {
			if r := recover(); r != nil && r != (stopped{}) {
				panic(r)
			}
		}()
		o.answer = x(&plain{l, durable, func(a api.Act) api.Got {
			if !yield(a) {
				panic(stopped{})
			}
			return o.got
		}})
	})
	return o
}

// newSwap returns the code of a swap that New accepts.
func newSwap(t *testing.T, l layout.Layout, thread, seq int, durable bool, list ...api.Entry) task.Code {
	t.Helper()
	c, e := swap.New(l, thread, seq, durable, list...)
	if c == nil || e != api.OK {
		t.Fatalf("New of %d, %d, %+v in %+v: %v, %d", thread, seq, list, l, c, e)
	}
	return c
}

// newSimple returns the code of a swap that Simple accepts.
func newSimple(t *testing.T, l layout.Layout, durable bool, x api.Entry) task.Code {
	t.Helper()
	c, e := swap.Simple(l, durable, x)
	if c == nil || e != api.OK {
		t.Fatalf("Simple of %+v in %+v: %v, %d", x, l, c, e)
	}
	return c
}

// expectAnswer checks what Answer returns.
func expectAnswer(t *testing.T, what string, c task.Code, answer, finished bool) {
	t.Helper()
	if a, ok := swap.Answer(c); a != answer || ok != finished {
		t.Fatalf("%s: Answer %v, %v, wanted %v, %v", what, a, ok, answer, finished)
	}
}

// trace is what a swap has done.
type trace struct {
	acts   []api.Act
	answer bool
	ended  bool // else it has been left after so many acts
}

// alike reports whether two acts are the same. Which location of a cache line a Flush names makes no difference.
func alike(a, b api.Act) bool {
	if a.Op == api.Flush && b.Op == api.Flush {
		a.At, b.At = a.At/8, b.At/8
	}
	return a == b
}

// follow runs a code whose acts have the given results, and holds each of its acts against the definition.
func follow(t *testing.T, what string, l layout.Layout, durable bool, c task.Code, as program, most int, answer func(api.Act) api.Got) trace {
	t.Helper()
	o := newOracle(l, durable, as)
	defer o.stop()
	x := trace{}
	expectAnswer(t, what, c, false, false)
	for len(x.acts) < most {
		next, act, finished := c.Next(o.got)
		wanted, more := o.next()
		if finished == more || more && !alike(act, wanted) {
			t.Fatalf("%s: act %d is %+v, finished %v, wanted %+v, %v; the acts before: %+v", what, len(x.acts), act, finished, wanted, !more, x.acts)
		}
		if finished {
			x.answer, x.ended = o.answer, true
			expectEnd(t, what, next, o.answer)
			return x
		}
		expectAnswer(t, what, next, false, false)
		x.acts = append(x.acts, act)
		c, o.got = next, answer(act)
	}
	return x
}

// expectEnd checks that a swap has finished for ever.
func expectEnd(t *testing.T, what string, c task.Code, answer bool) {
	t.Helper()
	for _, g := range []api.Got{{}, {OK: true}, {Word: api.Word{Val: 1, Ver: 1}, OK: true}} {
		expectAnswer(t, what, c, answer, true)
		next, _, finished := c.Next(g)
		if !finished {
			t.Fatalf("%s: goes on behind its end", what)
		}
		c = next
	}
	expectAnswer(t, what, c, answer, true)
}

// image is a memory that does each act at once.
type image []api.Word

func (m image) answer(a api.Act) api.Got {
	if a.Op == api.Sync {
		return api.Got{OK: true}
	}
	if a.At < 0 || int(a.At) >= len(m) {
		return api.Got{}
	}
	switch a.Op {
	case api.Load, api.Look:
		return api.Got{Word: m[a.At], OK: true}
	case api.Store, api.Release:
		m[a.At] = a.New
	case api.Swap:
		w := m[a.At]
		if w == a.Old {
			m[a.At] = a.New
		}
		return api.Got{Word: w, OK: w == a.Old}
	}
	return api.Got{OK: true}
}

// run lets a code run alone on a memory, in place.
func (m image) run(t *testing.T, what string, l layout.Layout, durable bool, c task.Code, as program) trace {
	t.Helper()
	x := follow(t, what, l, durable, c, as, 20000, m.answer)
	if !x.ended {
		t.Fatalf("%s: not finished after %d acts", what, len(x.acts))
	}
	return x
}

// expect checks what a memory holds.
func (m image) expect(t *testing.T, what string, wanted image) {
	t.Helper()
	for at := range wanted {
		if m[at] != wanted[at] {
			t.Fatalf("%s: location %d is %+v, wanted %+v", what, at, m[at], wanted[at])
		}
	}
}

// op returns the descriptor of an operation.
func op(who, seq, status int, list ...api.Entry) desc.Desc {
	return desc.Desc{Who: who, Seq: seq, Status: status, Entries: list}
}

func refOf(d desc.Desc) uint32 { return ref(d.Who, d.Seq) }

// scene returns a memory in which these entries find what they expect.
func scene(l layout.Layout, list ...api.Entry) image {
	m := image(l.First())
	for _, e := range list {
		m[e.At] = e.Old
	}
	return m
}

// put writes the descriptor of an operation, and installs it in the first n of its locations.
func (m image) put(t *testing.T, l layout.Layout, d desc.Desc, n int) {
	t.Helper()
	words, e := desc.Words(l, d)
	if e != api.OK {
		t.Fatal("Words:", e)
	}
	copy(m[placeOf(l, d.Who):], words)
	for _, e := range d.Entries[:n] {
		m[e.At] = api.Word{Val: e.Old.Val, Ver: e.Old.Ver, Ref: refOf(d)}
	}
}

func written(at api.Loc, v int64, ver uint32, new int64) api.Entry {
	return api.Entry{At: at, Old: api.Word{Val: v, Ver: ver}, New: new, Write: true}
}

func unwritten(at api.Loc, v int64, ver uint32) api.Entry {
	return api.Entry{At: at, Old: api.Word{Val: v, Ver: ver}, New: v}
}

// after returns the word of an entry's location once the swap is done.
func after(e api.Entry) api.Word {
	if e.Write {
		return api.Word{Val: e.New, Ver: e.Old.Ver + 1}
	}
	return e.Old
}

// list returns n entries at the locations of the layout from the given one on, every third of them not written.
func list(l layout.Layout, n, from int) []api.Entry {
	var all []api.Entry
	for i, at := range places(l)[from : from+n] {
		e := written(at, int64(100+i), uint32(i), int64(-i))
		if i%3 == 2 {
			e = unwritten(at, int64(100+i), math.MaxUint32)
		}
		all = append(all, e)
	}
	return all
}
