package peek_test

import (
	"iter"
	"slices"
	"testing"

	"simulcast/api"
	"simulcast/desc"
	"simulcast/help"
	"simulcast/layout"
	"simulcast/peek"
	"simulcast/task"
	"simulcast/word"
)

// want reports a difference.
func want[T comparable](t *testing.T, what string, got, wanted T) {
	t.Helper()
	if got != wanted {
		t.Errorf("%s: %v, wanted %v", what, got, wanted)
	}
}

// Statuses.
const (
	open    = 0
	done    = 1
	failed  = 2
	filling = 3
	stale   = 4
)

// placeOf returns the location of a slot or block.
func placeOf(l layout.Layout, who int) api.Loc {
	at, _ := l.Place(who)
	return at
}

// places returns the locations that a swap may change, in order.
func places(l layout.Layout) []api.Loc {
	var all []api.Loc
	for at := range l.Slot(1) {
		if l.May(at) {
			all = append(all, at)
		}
	}
	return all
}

func ref(who, seq int) uint32 { return uint32(who<<24 + seq) }

// owned reports whether a reference is valid, and its owner a slot or block of the layout.
func owned(l layout.Layout, ref uint32) bool {
	who, _ := word.Who(ref)
	return placeOf(l, who) >= 0
}

// plain has the chapter's definitions as programs that wait for the result of each of their acts.
type plain struct {
	layout  layout.Layout
	durable bool
	do      func(api.Act) api.Got
	rounds  int // that have been completed
}

// help runs a help, whose acts package help has tests of.
func (p *plain) help(ref uint32) int {
	c, _ := help.New(p.layout, ref, p.durable)
	next, act, finished := c.Next(api.Got{})
	for !finished {
		next, act, finished = next.Next(p.do(act))
	}
	status, _ := help.Status(next)
	return status
}

func (p *plain) observe(at api.Loc) api.Word {
	w := p.do(api.Act{Op: 5, At: at}).Word
	for owned(p.layout, w.Ref) {
		if p.help(w.Ref) == stale {
			p.do(api.Act{Op: 6, At: at, Old: w, New: api.Word{Val: w.Val, Ver: w.Ver}})
		}
		w = p.do(api.Act{Op: 5, At: at}).Word
	}
	return w
}

func (p *plain) round(at []api.Loc) []api.Word {
	var words []api.Word
	for _, a := range at {
		words = append(words, p.observe(a))
	}
	p.rounds++
	return words
}

// finish is a Flush of each address and a Sync, in durable mode.
func (p *plain) finish(at []api.Loc) {
	if !p.durable {
		return
	}
	for _, a := range at {
		p.do(api.Act{Op: 7, At: a})
	}
	p.do(api.Act{Op: 8})
}

// peek returns the observed words.
func (p *plain) peek(at []api.Loc) []api.Word {
	words := p.round(at)
	p.finish(at)
	return words
}

// together returns the words of the last of the rounds.
func (p *plain) together(at []api.Loc) []api.Word {
	words := p.round(at)
	for {
		before := words
		if words = p.round(at); slices.Equal(words, before) {
			p.finish(at)
			return words
		}
	}
}

// moment is what a code does next: an act, behind so many completed rounds.
type moment struct {
	act    api.Act
	rounds int
}

// oracle runs a definition act by act.
type oracle struct {
	next   func() (moment, bool)
	stop   func()
	got    api.Got    // of the last act
	words  []api.Word // at the end
	rounds int        // at the end
}

type stopped struct{}

func newOracle(l layout.Layout, durable, together bool, at []api.Loc) *oracle {
	o := &oracle{}
	o.next, o.stop = iter.Pull(func(yield func(moment) bool) {
		defer func() {
			if r := recover(); r != nil && r != (stopped{}) {
				panic(r)
			}
		}()
		p := &plain{layout: l, durable: durable}
		p.do = func(a api.Act) api.Got {
			if !yield(moment{a, p.rounds}) {
				panic(stopped{})
			}
			return o.got
		}
		if together {
			o.words = p.together(at)
		} else {
			o.words = p.peek(at)
		}
		o.rounds = p.rounds
	})
	return o
}

// newCode returns the code of a Peek or a Together of addresses that are accepted.
func newCode(t *testing.T, l layout.Layout, durable, together bool, at ...api.Loc) task.Code {
	t.Helper()
	make := peek.New
	if together {
		make = peek.Together
	}
	c, e := make(l, durable, at...)
	if c == nil || e != api.OK {
		t.Fatalf("together %v, of %v in %+v: %v, %d", together, at, l, c, e)
	}
	return c
}

// expectState checks what Words and Rounds return.
func expectState(t *testing.T, what string, c task.Code, words []api.Word, finished bool, rounds int) {
	t.Helper()
	if w, ok := peek.Words(c); !slices.Equal(w, words) || ok != finished || !ok && w != nil {
		t.Fatalf("%s: Words %v, %v, wanted %v, %v", what, w, ok, words, finished)
	}
	if n := peek.Rounds(c); n != rounds {
		t.Fatalf("%s: Rounds %d, wanted %d", what, n, rounds)
	}
}

// trace is what a code has done.
type trace struct {
	acts   []api.Act
	words  []api.Word
	rounds int
	ended  bool // else it has been left after so many acts
}

// follow runs a code whose acts have the given results, and holds each of its acts against the definition.
func follow(t *testing.T, what string, l layout.Layout, durable, together bool, at []api.Loc, most int, answer func(api.Act) api.Got) trace {
	t.Helper()
	c, o := newCode(t, l, durable, together, at...), newOracle(l, durable, together, at)
	defer o.stop()
	x := trace{}
	expectState(t, what, c, nil, false, 0)
	for len(x.acts) < most {
		next, act, finished := c.Next(o.got)
		wanted, more := o.next()
		if finished == more || more && act != wanted.act {
			t.Fatalf("%s: act %d is %+v, finished %v, wanted %+v, %v; the acts before: %+v", what, len(x.acts), act, finished, wanted.act, !more, x.acts)
		}
		if finished {
			x.words, x.rounds, x.ended = o.words, o.rounds, true
			expectEnd(t, what, next, o.words, o.rounds)
			return x
		}
		expectState(t, what, next, nil, false, wanted.rounds)
		x.acts = append(x.acts, act)
		c, o.got = next, answer(act)
	}
	return x
}

// expectEnd checks that a code is done for ever.
func expectEnd(t *testing.T, what string, c task.Code, words []api.Word, rounds int) {
	t.Helper()
	for _, g := range []api.Got{{}, {OK: true}, {Word: api.Word{Val: 1, Ver: 1}, OK: true}} {
		expectState(t, what, c, words, true, rounds)
		next, _, finished := c.Next(g)
		if !finished {
			t.Fatalf("%s: goes on behind its end", what)
		}
		c = next
	}
	expectState(t, what, c, words, true, rounds)
}

// image is a memory that does each act at once.
type image []api.Word

func (m image) answer(a api.Act) api.Got {
	if a.Op == api.Sync {
		return api.Got{OK: true}
	}
	if a.At < 0 || int(a.At) >= len(m) {
		return api.Got{}
	}
	switch a.Op {
	case api.Load, api.Look:
		return api.Got{Word: m[a.At], OK: true}
	case api.Store, api.Release:
		m[a.At] = a.New
	case api.Swap:
		w := m[a.At]
		if w == a.Old {
			m[a.At] = a.New
		}
		return api.Got{Word: w, OK: w == a.Old}
	}
	return api.Got{OK: true}
}

// run lets a code run alone on a memory, in place.
func (m image) run(t *testing.T, what string, l layout.Layout, durable, together bool, at ...api.Loc) trace {
	t.Helper()
	x := follow(t, what, l, durable, together, at, 50000, m.answer)
	if !x.ended {
		t.Fatalf("%s: not done after %d acts", what, len(x.acts))
	}
	return x
}

// expect checks what a memory holds.
func (m image) expect(t *testing.T, what string, wanted image) {
	t.Helper()
	for at := range wanted {
		if m[at] != wanted[at] {
			t.Fatalf("%s: location %d is %+v, wanted %+v", what, at, m[at], wanted[at])
		}
	}
}

// op returns the descriptor of an operation.
func op(who, seq, status int, list ...api.Entry) desc.Desc {
	return desc.Desc{Who: who, Seq: seq, Status: status, Entries: list}
}

func refOf(d desc.Desc) uint32 { return ref(d.Who, d.Seq) }

// scene returns a memory in which these entries find what they expect.
func scene(l layout.Layout, list ...api.Entry) image {
	m := image(l.First())
	for _, e := range list {
		m[e.At] = e.Old
	}
	return m
}

// put writes the descriptor of an operation, and installs it in the first n of its locations.
func (m image) put(t *testing.T, l layout.Layout, d desc.Desc, n int) {
	t.Helper()
	words, e := desc.Words(l, d)
	if e != api.OK {
		t.Fatal("Words:", e)
	}
	copy(m[placeOf(l, d.Who):], words)
	for _, e := range d.Entries[:n] {
		m[e.At] = api.Word{Val: e.Old.Val, Ver: e.Old.Ver, Ref: refOf(d)}
	}
}

func written(at api.Loc, v int64, ver uint32, new int64) api.Entry {
	return api.Entry{At: at, Old: api.Word{Val: v, Ver: ver}, New: new, Write: true}
}

func unwritten(at api.Loc, v int64, ver uint32) api.Entry {
	return api.Entry{At: at, Old: api.Word{Val: v, Ver: ver}, New: v}
}

// after returns the word of an entry's location once the swap is done.
func after(e api.Entry) api.Word {
	if e.Write {
		return api.Word{Val: e.New, Ver: e.Old.Ver + 1}
	}
	return e.Old
}
