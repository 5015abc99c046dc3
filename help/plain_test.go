package help_test

import (
	"iter"
	"math"
	"slices"
	"testing"

	"simulcast/api"
	"simulcast/help"
	"simulcast/layout"
	"simulcast/task"
)

// want reports a difference.
func want[T comparable](t *testing.T, what string, got, wanted T) {
	t.Helper()
	if got != wanted {
		t.Errorf("%s: %v, wanted %v", what, got, wanted)
	}
}

// Statuses.
const (
	open    = 0
	done    = 1
	failed  = 2
	filling = 3
	stale   = 4
)

// cellAt, recordAt and placeOf give the locations of a layout by the chapter of layout.
func cellAt(l layout.Layout, i int) api.Loc { return api.Loc(8 + 16*l.Threads + i) }

func recordAt(l layout.Layout, thread, i int) api.Loc {
	return api.Loc(8 + 8*l.Threads + 8*(thread-1) + i)
}

func placeOf(l layout.Layout, who int) (api.Loc, int) {
	slots := cellAt(l, (l.Cells+7)/8*8)
	if who <= 8 {
		return slots + api.Loc(104*(who-1)), 32
	}
	return slots + api.Loc(104*l.Threads+8+32*(who-9)), 10
}

// places returns the locations that a swap may change, in order.
func places(l layout.Layout) []api.Loc {
	var all []api.Loc
	for t := 1; t <= l.Threads; t++ {
		all = append(all, recordAt(l, t, 0), recordAt(l, t, 1), recordAt(l, t, 2))
	}
	for i := range l.Cells {
		all = append(all, cellAt(l, i))
	}
	return all
}

func ref(who, seq int) uint32 { return uint32(who<<24 + seq) }

// owned reports whether a reference is valid, and its owner a slot or block of the layout.
func owned(l layout.Layout, ref uint32) bool {
	who, seq := int(ref>>24), ref&0xffffff
	return seq > 0 && (who >= 1 && who <= l.Threads || who >= 9 && who <= 8+l.Blocks)
}

// plain is the chapter's definition of help as a program that waits for the result of each of its acts.
type plain struct {
	layout  layout.Layout
	durable bool
	do      func(api.Act) api.Got
	depth   int // of nested helps
}

func (p *plain) look(at api.Loc) api.Word { return p.do(api.Act{Op: 5, At: at}).Word }

func (p *plain) load(at api.Loc) api.Word { return p.do(api.Act{Op: 1, At: at}).Word }

func (p *plain) swap(at api.Loc, old, new api.Word) api.Got {
	return p.do(api.Act{Op: 6, At: at, Old: old, New: new})
}

// persist is a Flush of each location and a Sync, in durable mode.
func (p *plain) persist(at ...api.Loc) {
	if !p.durable {
		return
	}
	for _, a := range at {
		p.do(api.Act{Op: 7, At: a})
	}
	p.do(api.Act{Op: 8})
}

// help does the five steps, and returns the final status.
func (p *plain) help(ref uint32) int {
	who, seq := int(ref>>24), ref&0xffffff
	first, most := placeOf(p.layout, who)
	valid := func(w api.Word) bool { return w.Ver == seq && w.Ref == 0 && w.Val >= 0 && w.Val <= 2 }
	if !valid(p.look(first)) {
		return stale
	}
	count := p.load(first + 1)
	if count.Val < 1 || count.Val > int64(most) || count.Ver != 0 || count.Ref != 0 {
		return stale
	}
	var words []api.Word
	for i := range api.Loc(3 * count.Val) {
		words = append(words, p.load(first+2+i))
	}
	status := p.look(first)
	entries, ok := p.entries(words)
	if !valid(status) || !ok {
		return stale
	}
	var at []api.Loc
	for _, e := range entries {
		at = append(at, e.At)
	}
	if status.Val == open {
		switch p.install(ref, first, entries) {
		case done:
			p.persist(at...)
			p.swap(first, api.Word{Val: open, Ver: seq}, api.Word{Val: done, Ver: seq})
		case failed:
			p.swap(first, api.Word{Val: open, Ver: seq}, api.Word{Val: failed, Ver: seq})
		}
	}
	p.persist(first)
	final := p.look(first)
	result := stale
	if final == (api.Word{Val: done, Ver: seq}) || final == (api.Word{Val: failed, Ver: seq}) {
		result = int(final.Val)
	}
	for _, e := range entries {
		w := p.look(e.At)
		switch {
		case w.Ref != ref:
		case result == done && e.Write && w.Ver == math.MaxUint32:
		case result == done && e.Write:
			p.swap(e.At, w, api.Word{Val: e.New, Ver: w.Ver + 1})
		default:
			p.swap(e.At, w, api.Word{Val: w.Val, Ver: w.Ver})
		}
	}
	p.persist(at...)
	return result
}

// install does step 3: done if all entries are installed, failed if one cannot be, and stale if somebody has decided.
func (p *plain) install(ref uint32, first api.Loc, entries []api.Entry) int {
	for _, e := range entries {
		for {
			held := api.Word{Val: e.Old.Val, Ver: e.Old.Ver, Ref: ref}
			g := p.swap(e.At, api.Word{Val: e.Old.Val, Ver: e.Old.Ver}, held)
			if g.OK || g.Word == held {
				break
			}
			if g.Word.Ref == ref || !owned(p.layout, g.Word.Ref) {
				return failed
			}
			if p.look(first) != (api.Word{Val: open, Ver: ref & 0xffffff}) {
				return stale
			}
			p.depth++
			result := p.help(g.Word.Ref)
			p.depth--
			if result == stale {
				p.swap(e.At, g.Word, api.Word{Val: g.Word.Val, Ver: g.Word.Ver})
			}
		}
	}
	return done
}

// entries returns the entries of these words, or false if they are not valid, not in order or not permitted.
func (p *plain) entries(words []api.Word) ([]api.Entry, bool) {
	var list []api.Entry
	may := places(p.layout)
	for i := 0; i < len(words); i += 3 {
		a, b, c := words[i], words[i+1], words[i+2]
		write := a.Ver == 1
		switch {
		case a.Ver > 1 || a.Ref != 0 || b.Ref != 0 || c.Ver != 0 || c.Ref != 0:
			return nil, false
		case !slices.Contains(may, api.Loc(a.Val)):
			return nil, false
		case i > 0 && api.Loc(a.Val) <= list[i/3-1].At:
			return nil, false
		case write && b.Ver == math.MaxUint32 || !write && b.Val != c.Val:
			return nil, false
		}
		list = append(list, api.Entry{At: api.Loc(a.Val), Old: b, New: c.Val, Write: write})
	}
	return list, true
}

// moment is what a help does next: an act, inside of so many nested helps.
type moment struct {
	act   api.Act
	depth int
}

// oracle runs the plain definition act by act.
type oracle struct {
	next   func() (moment, bool)
	stop   func()
	got    api.Got // of the last act
	status int     // at the end
}

type stopped struct{}

func newOracle(l layout.Layout, ref uint32, durable bool) *oracle {
	o := &oracle{}
	o.next, o.stop = iter.Pull(func(yield func(moment) bool) {
		defer func() {
			if r := recover(); r != nil && r != (stopped{}) {
				panic(r)
			}
		}()
		p := plain{layout: l, durable: durable}
		p.do = func(a api.Act) api.Got {
			if !yield(moment{a, p.depth}) {
				panic(stopped{})
			}
			return o.got
		}
		o.status = p.help(ref)
	})
	return o
}

// newHelp returns the code of a help that New accepts.
func newHelp(t *testing.T, l layout.Layout, ref uint32, durable bool) task.Code {
	t.Helper()
	c, e := help.New(l, ref, durable)
	if c == nil || e != api.OK {
		t.Fatalf("New of %x in %+v: %v, %d", ref, l, c, e)
	}
	return c
}

// expectState checks what Status and Depth return.
func expectState(t *testing.T, what string, c task.Code, status int, finished bool, depth int) {
	t.Helper()
	if s, ok := help.Status(c); s != status || ok != finished {
		t.Fatalf("%s: Status %d, %v, wanted %d, %v", what, s, ok, status, finished)
	}
	if d := help.Depth(c); d != depth {
		t.Fatalf("%s: Depth %d, wanted %d", what, d, depth)
	}
}

// trace is what a help has done.
type trace struct {
	acts    []api.Act
	deepest int
	status  int
	ended   bool // else it has been left after so many acts
}

// follow runs a help whose acts have the given results, and holds each of its acts against the plain definition.
func follow(t *testing.T, what string, l layout.Layout, ref uint32, durable bool, most int, answer func(api.Act) api.Got) trace {
	t.Helper()
	c, o := newHelp(t, l, ref, durable), newOracle(l, ref, durable)
	defer o.stop()
	x := trace{}
	expectState(t, what, c, 0, false, 0)
	for len(x.acts) < most {
		next, act, finished := c.Next(o.got)
		wanted, more := o.next()
		if finished == more || more && act != wanted.act {
			t.Fatalf("%s: act %d is %+v, finished %v, wanted %+v, %v; the acts before: %+v", what, len(x.acts), act, finished, wanted.act, !more, x.acts)
		}
		if finished {
			x.status, x.ended = o.status, true
			expectEnd(t, what, next, o.status)
			return x
		}
		expectState(t, what, next, 0, false, wanted.depth)
		x.acts, x.deepest = append(x.acts, act), max(x.deepest, wanted.depth)
		c, o.got = next, answer(act)
	}
	return x
}

// expectEnd checks that a help is done for ever.
func expectEnd(t *testing.T, what string, c task.Code, status int) {
	t.Helper()
	for _, g := range []api.Got{{}, {OK: true}, {Word: api.Word{Val: 1, Ver: 1}, OK: true}} {
		expectState(t, what, c, status, true, 0)
		next, _, finished := c.Next(g)
		if !finished {
			t.Fatalf("%s: goes on behind its end", what)
		}
		c = next
	}
	expectState(t, what, c, status, true, 0)
}

// image is a memory that does each act at once.
type image []api.Word

func (m image) answer(a api.Act) api.Got {
	if a.Op == api.Sync {
		return api.Got{OK: true}
	}
	if a.At < 0 || int(a.At) >= len(m) {
		return api.Got{}
	}
	switch a.Op {
	case api.Load, api.Look:
		return api.Got{Word: m[a.At], OK: true}
	case api.Swap:
		w := m[a.At]
		if w == a.Old {
			m[a.At] = a.New
		}
		return api.Got{Word: w, OK: w == a.Old}
	}
	return api.Got{OK: true}
}

// op is an operation as it lies in a memory.
type op struct {
	who, seq, status int
	entries          []api.Entry
}

func (o op) ref() uint32 { return ref(o.who, o.seq) }

// words returns the words of the operation's descriptor, whether it is valid or not.
func (o op) words() []api.Word {
	w := []api.Word{{Val: int64(o.status), Ver: uint32(o.seq)}, {Val: int64(len(o.entries))}}
	for _, e := range o.entries {
		first := api.Word{Val: int64(e.At)}
		if e.Write {
			first.Ver = 1
		}
		w = append(w, first, e.Old, api.Word{Val: e.New})
	}
	return w
}

// scene returns a memory with these operations, in which each location has the word that the first of them expects there.
func scene(l layout.Layout, ops ...op) image {
	m := image(l.First())
	for _, o := range slices.Backward(ops) {
		first, _ := placeOf(l, o.who)
		copy(m[first:], o.words())
		for _, e := range o.entries {
			if e.At >= 0 && int(e.At) < len(m) {
				m[e.At] = e.Old
			}
		}
	}
	return m
}

// hold installs an operation in the first n of its locations.
func (m image) hold(o op, n int) {
	for _, e := range o.entries[:n] {
		m[e.At] = api.Word{Val: e.Old.Val, Ver: e.Old.Ver, Ref: o.ref()}
	}
}

func written(at api.Loc, v int64, ver uint32, new int64) api.Entry {
	return api.Entry{At: at, Old: api.Word{Val: v, Ver: ver}, New: new, Write: true}
}

func unwritten(at api.Loc, v int64, ver uint32) api.Entry {
	return api.Entry{At: at, Old: api.Word{Val: v, Ver: ver}, New: v}
}
