package help_test

import (
	"fmt"
	"math"
	"math/rand"
	"slices"
	"testing"

	"simulcast/api"
	"simulcast/help"
	"simulcast/layout"
	"simulcast/machine"
	"simulcast/task"
)

// of is the layout of most tests: its cells begin at 56, its slots at 72, 176 and 280, its blocks at 392 and 424.
var of = layout.Layout{Threads: 3, Cells: 9, Blocks: 2}

var owners = []int{1, 2, 3, 9, 10}

// run lets a help run alone on a memory, in place.
func (m image) run(t *testing.T, what string, l layout.Layout, ref uint32, durable bool) trace {
	t.Helper()
	x := follow(t, what, l, ref, durable, 50000, m.answer)
	if !x.ended {
		t.Fatalf("%s: not done after %d acts", what, len(x.acts))
	}
	return x
}

// expect checks what a memory holds.
func (m image) expect(t *testing.T, what string, wanted image) {
	t.Helper()
	for at := range wanted {
		if m[at] != wanted[at] {
			t.Fatalf("%s: location %d is %+v, wanted %+v", what, at, m[at], wanted[at])
		}
	}
}

// P20.1: the errors of New, and which comes first.
func TestNewErrors(t *testing.T) {
	expect := func(l layout.Layout, ref uint32, e api.Errno) {
		t.Helper()
		for _, durable := range []bool{false, true} {
			if c, err := help.New(l, ref, durable); err != e || (c == nil) != (e != api.OK) {
				t.Errorf("New of %x in %+v: %v, %d, wanted %d", ref, l, c, err, e)
			}
		}
	}
	refs := []uint32{0, 1, api.MaxSeq, math.MaxUint32, 73<<24 + 1, 255<<24 + 1}
	for who := range uint32(256) {
		for _, seq := range []uint32{0, 1, 2, api.MaxSeq - 1, api.MaxSeq} {
			refs = append(refs, who<<24+seq)
		}
	}
	for _, l := range []layout.Layout{of, {Threads: 1, Cells: 1}, {Threads: 8, Cells: 2048}, {Threads: 8, Cells: 1072, Blocks: 64}, {Threads: 2, Cells: 2, Blocks: 33}} {
		for _, ref := range refs {
			if owned(l, ref) {
				expect(l, ref, api.OK)
			} else {
				expect(l, ref, api.ErrRange)
			}
		}
	}
	for _, l := range []layout.Layout{{}, {Threads: 9, Cells: 8}, {Threads: 1, Cells: 0}, {Threads: 1, Cells: 2049}, {Threads: 1, Cells: 1, Blocks: -1}, {Threads: 1, Cells: 1, Blocks: 65}, {Threads: 8, Cells: 2048, Blocks: 64}} {
		for _, ref := range refs {
			expect(l, ref, api.ErrArg)
		}
	}
}

// Example 1.
func TestExample(t *testing.T) {
	l := layout.Layout{Threads: 2, Cells: 8}
	a, b, slot := l.Cell(0), l.Cell(1), l.Slot(1)
	one := op{1, 1, open, []api.Entry{written(a, 5, 0, 6), written(b, 7, 0, 8)}}
	r := ref(1, 1)
	acts := []api.Act{
		{Op: api.Look, At: slot}, {Op: api.Load, At: slot + 1}, {Op: api.Load, At: slot + 2}, {Op: api.Load, At: slot + 3},
		{Op: api.Load, At: slot + 4}, {Op: api.Load, At: slot + 5}, {Op: api.Load, At: slot + 6}, {Op: api.Load, At: slot + 7},
		{Op: api.Look, At: slot},
		{Op: api.Swap, At: a, Old: api.Word{Val: 5}, New: api.Word{Val: 5, Ref: r}},
		{Op: api.Swap, At: b, Old: api.Word{Val: 7}, New: api.Word{Val: 7, Ref: r}},
		{Op: api.Swap, At: slot, Old: api.Word{Val: open, Ver: 1}, New: api.Word{Val: done, Ver: 1}},
		{Op: api.Look, At: slot},
		{Op: api.Look, At: a}, {Op: api.Swap, At: a, Old: api.Word{Val: 5, Ref: r}, New: api.Word{Val: 6, Ver: 1}},
		{Op: api.Look, At: b}, {Op: api.Swap, At: b, Old: api.Word{Val: 7, Ref: r}, New: api.Word{Val: 8, Ver: 1}},
	}
	m := scene(l, one)
	x := m.run(t, "the example", l, r, false)
	want(t, "the status", x.status, done)
	want(t, "17 acts", len(x.acts), 17)
	if !slices.Equal(x.acts, acts) {
		t.Errorf("the acts are %+v", x.acts)
	}
	want(t, "a", m[a], api.Word{Val: 6, Ver: 1})
	want(t, "b", m[b], api.Word{Val: 8, Ver: 1})
	want(t, "the status word", m[slot], api.Word{Val: done, Ver: 1})

	m = scene(l, one)
	m[b].Val = 9
	x = m.run(t, "another b", l, r, false)
	want(t, "the status", x.status, failed)
	want(t, "a", m[a], api.Word{Val: 5})
	want(t, "b", m[b], api.Word{Val: 9})

	w, _ := machine.New(2, scene(l, one)...)
	v, _ := task.Make(w, nil, newHelp(t, l, r, false))
	v, ok := v.Alone(2, 17)
	want(t, "done within 17 steps", ok, true)
	want(t, "steps", v.Tasks[1].Steps(), 17)
	expectState(t, "on a machine", v.Tasks[1].Code(), done, true, 0)
}

// list returns n entries at the locations of the layout from the given one on, every third of them not written.
func list(n, from int) []api.Entry {
	var all []api.Entry
	for i, at := range places(of)[from : from+n] {
		e := written(at, int64(100+i), uint32(i), int64(-i))
		if i%3 == 2 {
			e = unwritten(at, int64(100+i), uint32(i))
		}
		all = append(all, e)
	}
	return all
}

// after returns the word of an entry's location once the swap is done.
func after(e api.Entry) api.Word {
	if e.Write {
		return api.Word{Val: e.New, Ver: e.Old.Ver + 1}
	}
	return e.Old
}

// P20.1, step 1: each kind of status word that is not of the operation ends the help after one act.
func TestStaleAtOnce(t *testing.T) {
	for _, who := range owners {
		for _, seq := range []int{1, 2, 9, api.MaxSeq} {
			n := uint32(seq)
			for _, w := range []api.Word{
				{Val: open, Ver: n - 1}, {Val: open, Ver: n + 1}, {Val: done, Ver: n - 1}, {Val: done, Ver: n + 1}, {Val: failed, Ver: n + 1},
				{Val: open, Ver: n + 1<<24}, {Val: open, Ver: math.MaxUint32}, {Val: filling, Ver: n}, {Val: 4, Ver: n}, {Val: -1, Ver: n},
				{Val: 1 << 32, Ver: n}, {Val: 1<<32 + 1, Ver: n}, {Val: math.MinInt64, Ver: n}, {Val: open, Ver: n, Ref: 1},
				{Val: done, Ver: n, Ref: ref(who, seq)}, {Val: failed, Ver: n, Ref: math.MaxUint32}, {},
			} {
				for _, durable := range []bool{false, true} {
					m := scene(of, op{who, seq, open, list(2, 0)})
					m.hold(op{who, seq, open, list(2, 0)}, 1)
					first, _ := placeOf(of, who)
					m[first] = w
					before := slices.Clone(m)
					what := fmt.Sprintf("number %d of %d with %+v", seq, who, w)
					x := m.run(t, what, of, ref(who, seq), durable)
					if x.status != stale || len(x.acts) != 1 {
						t.Fatalf("%s: status %d after %d acts", what, x.status, len(x.acts))
					}
					m.expect(t, what, before)
				}
			}
		}
	}
}

// P20.1, step 2: each kind of wrong count ends the help after two acts; each count that is right is followed by the Loads
// of so many entries.
func TestCounts(t *testing.T) {
	for _, who := range owners {
		first, most := placeOf(of, who)
		for _, status := range []int{open, done, failed} {
			expect := func(w api.Word, acts int) {
				t.Helper()
				m := scene(of, op{who, 3, status, list(1, 0)})
				m[first+1] = w
				before := slices.Clone(m)
				what := fmt.Sprintf("count %+v of %d", w, who)
				x := m.run(t, what, of, ref(who, 3), true)
				if x.status != stale || len(x.acts) != acts {
					t.Fatalf("%s: status %d after %d acts, wanted %d", what, x.status, len(x.acts), acts)
				}
				m.expect(t, what, before)
			}
			for _, n := range []int64{0, -1, int64(most) + 1, int64(most) + 2, 33, 1 << 32, 1<<32 + 1, 1 << 62, math.MinInt64, math.MaxInt64} {
				expect(api.Word{Val: n}, 2)
			}
			for _, w := range []api.Word{{Val: 1, Ver: 1}, {Val: 1, Ref: 1}, {Val: 1, Ver: math.MaxUint32}, {Val: 1, Ref: ref(who, 3)}} {
				expect(w, 2)
			}
			for n := 2; n <= most; n++ {
				expect(api.Word{Val: int64(n)}, 3+3*n) // the second entry is none
			}
		}
	}
}

// P20.1, step 2: entries that are none, not valid, not in order or not permitted, at each place of the list: the help
// reads all of it, and nothing else happens.
func TestStaleEntries(t *testing.T) {
	faults := map[string]func(w []api.Word, i int){
		"location -1":            func(w []api.Word, i int) { w[3*i].Val = -1 },
		"location 4096":          func(w []api.Word, i int) { w[3*i].Val = 4096 },
		"location 2^32 more":     func(w []api.Word, i int) { w[3*i].Val += 1 << 32 },
		"the clock":              func(w []api.Word, i int) { w[3*i].Val = 0 },
		"no location of records": func(w []api.Word, i int) { w[3*i].Val = 35 },
		"behind the cells":       func(w []api.Word, i int) { w[3*i].Val = 65 },
		"written twice":          func(w []api.Word, i int) { w[3*i].Ver = 2 },
		"location with a Ref":    func(w []api.Word, i int) { w[3*i].Ref = 1 },
		"Old with a Ref":         func(w []api.Word, i int) { w[3*i+1].Ref = ref(1, 1) },
		"New with a Ver":         func(w []api.Word, i int) { w[3*i+2].Ver = 1 },
		"New with a Ref":         func(w []api.Word, i int) { w[3*i+2].Ref = 1 },
		"a version too much":     func(w []api.Word, i int) { w[3*i].Ver, w[3*i+1].Ver = 1, math.MaxUint32 },
		"changed, not written":   func(w []api.Word, i int) { w[3*i].Ver, w[3*i+2].Val = 0, w[3*i+1].Val+1 },
		"location of another":    func(w []api.Word, i int) { w[3*i].Val = w[(3*i+3)%len(w)].Val },
		"not in order":           func(w []api.Word, i int) { w[3*i], w[(3*i+3)%len(w)] = w[(3*i+3)%len(w)], w[3*i] },
	}
	for _, who := range owners {
		first, _ := placeOf(of, who)
		for _, n := range []int{2, 3, 10} {
			for what, make := range faults {
				for i := range n {
					for _, status := range []int{open, done, failed} {
						o := op{who, 3, status, list(n, 2)}
						m := scene(of, o)
						m.hold(o, n/2)
						make(m[first+2:][:3*n], i)
						before := slices.Clone(m)
						x := m.run(t, what, of, o.ref(), i%2 == 0)
						if x.status != stale || len(x.acts) != 3+3*n {
							t.Fatalf("%s, entry %d of %d: status %d after %d acts", what, i, n, x.status, len(x.acts))
						}
						m.expect(t, what, before)
					}
				}
			}
		}
	}
}

// P20.1, step 2: what the second Look finds. What was open may be decided by then, and is only released.
func TestStatusBehindTheEntries(t *testing.T) {
	o := op{9, 3, open, list(4, 3)}
	first, _ := placeOf(of, 9)
	for _, x := range []struct {
		first, second api.Word
		status, acts  int
	}{
		{api.Word{Val: open, Ver: 3}, api.Word{Val: open, Ver: 3}, done, 15 + 4 + 1 + 1 + 8},
		{api.Word{Val: open, Ver: 3}, api.Word{Val: done, Ver: 3}, done, 15 + 1 + 4},
		{api.Word{Val: open, Ver: 3}, api.Word{Val: failed, Ver: 3}, failed, 15 + 1 + 4},
		{api.Word{Val: done, Ver: 3}, api.Word{Val: open, Ver: 3}, done, 15 + 4 + 1 + 1 + 8},
		{api.Word{Val: open, Ver: 3}, api.Word{Val: filling, Ver: 3}, stale, 15},
		{api.Word{Val: open, Ver: 3}, api.Word{Val: filling, Ver: 4}, stale, 15},
		{api.Word{Val: open, Ver: 3}, api.Word{Val: open, Ver: 4}, stale, 15},
		{api.Word{Val: open, Ver: 3}, api.Word{Val: open, Ver: 3, Ref: 1}, stale, 15},
		{api.Word{Val: done, Ver: 3}, api.Word{Val: done, Ver: 2}, stale, 15},
		{api.Word{Val: open, Ver: 3}, api.Word{Val: 5, Ver: 3}, stale, 15},
	} {
		m := scene(of, o)
		m[first] = x.first
		acts := 0
		got := follow(t, "the second Look", of, o.ref(), false, 100, func(a api.Act) api.Got {
			if acts++; acts == 15 {
				m[first] = x.second
			}
			return m.answer(a)
		})
		if got.status != x.status || len(got.acts) != x.acts {
			t.Errorf("%+v and then %+v: status %d after %d acts, wanted %d after %d", x.first, x.second, got.status, len(got.acts), x.status, x.acts)
		}
	}
}

// P20.1, steps 3 to 5: an operation that meets no other one, of every size, of which some entries have been installed.
func TestDone(t *testing.T) {
	l := layout.Layout{Threads: 3, Cells: 30, Blocks: 2}
	for _, who := range owners {
		_, most := placeOf(l, who)
		for n := 1; n <= most; n++ {
			for _, installed := range []int{0, 1, n / 2, n} {
				o := op{who, n, open, nil}
				for i, at := range places(l)[:n] {
					e := written(at, int64(i), uint32(2*i), int64(-i))
					if i%3 == 1 {
						e = unwritten(at, int64(i), math.MaxUint32)
					}
					o.entries = append(o.entries, e)
				}
				m := scene(l, o)
				wanted := slices.Clone(m)
				for _, e := range o.entries {
					wanted[e.At] = after(e)
				}
				first, _ := placeOf(l, who)
				wanted[first].Val = done
				m.hold(o, installed)
				what := fmt.Sprintf("%d entries of %d, %d installed", n, who, installed)
				x := m.run(t, what, l, o.ref(), false)
				if x.status != done || len(x.acts) != 3+3*n+n+1+1+2*n {
					t.Fatalf("%s: status %d after %d acts", what, x.status, len(x.acts))
				}
				m.expect(t, what, wanted)
			}
		}
	}
}

// P20.1: the acts that a durable help has in addition, and where.
func TestDurableActs(t *testing.T) {
	o := op{2, 5, open, list(3, 1)}
	first, _ := placeOf(of, 2)
	flush := func(at ...api.Loc) []api.Act {
		var acts []api.Act
		for _, a := range at {
			acts = append(acts, api.Act{Op: api.Flush, At: a})
		}
		return append(acts, api.Act{Op: api.Sync})
	}
	a, b, c := o.entries[0].At, o.entries[1].At, o.entries[2].At
	m := scene(of, o)
	x := m.run(t, "done", of, o.ref(), true)
	want(t, "the status", x.status, done)
	want(t, "the acts", len(x.acts), 12+3+4+1+2+1+6+4)
	if !slices.Equal(x.acts[15:19], flush(a, b, c)) || !slices.Equal(x.acts[20:22], flush(first)) || !slices.Equal(x.acts[29:], flush(a, b, c)) {
		t.Errorf("the acts of a durable help: %+v", x.acts)
	}
	want(t, "the decision", x.acts[19], api.Act{Op: api.Swap, At: first, Old: api.Word{Ver: 5}, New: api.Word{Val: done, Ver: 5}})

	m = scene(of, o)
	m[c].Ver++
	x = m.run(t, "failed", of, o.ref(), true)
	want(t, "the status", x.status, failed)
	want(t, "the acts", len(x.acts), 12+3+1+2+1+5+4)
	if !slices.Equal(x.acts[16:18], flush(first)) || !slices.Equal(x.acts[24:], flush(a, b, c)) {
		t.Errorf("the acts of a durable help that fails: %+v", x.acts)
	}
	want(t, "the decision", x.acts[15], api.Act{Op: api.Swap, At: first, Old: api.Word{Ver: 5}, New: api.Word{Val: failed, Ver: 5}})
}

// P20.1, steps 3 to 5: help that fails at each of its entries, by each kind of word that is not the expected one.
func TestFailed(t *testing.T) {
	for _, who := range owners {
		for n := 1; n <= 5; n++ {
			o := op{who, 6, open, list(n, 4)}
			r := o.ref()
			for i, e := range o.entries {
				v, ver := e.Old.Val, e.Old.Ver
				for _, w := range []api.Word{
					{Val: v + 1, Ver: ver}, {Val: v, Ver: ver + 1}, {Val: v, Ver: ver - 1}, {Val: e.New, Ver: ver + 1}, {Val: 1, Ver: 99},
					{Val: v + 1, Ver: ver, Ref: r}, {Val: v, Ver: ver + 1, Ref: r}, // held by the operation, but another word
					{Val: v, Ver: ver, Ref: 1}, {Val: v, Ver: ver, Ref: 5 << 24}, {Val: v, Ver: ver, Ref: ref(73, 1)}, {Val: v, Ver: ver, Ref: math.MaxUint32}, // malformed
					{Val: v, Ver: ver, Ref: ref(4, 1)}, {Val: v, Ver: ver, Ref: ref(8, 6)}, {Val: v, Ver: ver, Ref: ref(11, 1)}, {Val: v, Ver: ver, Ref: ref(72, 6)}, // nobody's
				} {
					m := scene(of, o)
					m[e.At] = w
					wanted := slices.Clone(m)
					first, _ := placeOf(of, who)
					wanted[first].Val = failed
					acts := 3 + 3*n + i + 1 + 1 + 1 + n + i
					if w.Ref == r {
						wanted[e.At].Ref = 0
						acts++
					}
					what := fmt.Sprintf("entry %d of %d of %d finds %+v", i, n, who, w)
					x := m.run(t, what, of, r, false)
					if x.status != failed || len(x.acts) != acts || x.deepest != 0 {
						t.Fatalf("%s: status %d after %d acts, Depth %d", what, x.status, len(x.acts), x.deepest)
					}
					m.expect(t, what, wanted)
				}
			}
		}
	}
}

// P20.1, step 5: an operation that has been decided is only released: where it holds a location, whatever the word is.
func TestDecided(t *testing.T) {
	for _, who := range owners {
		for _, status := range []int{done, failed} {
			for holds := range 16 {
				o := op{who, 6, status, list(4, 2)}
				m := scene(of, o)
				acts := 3 + 12 + 1 + 4
				wanted := slices.Clone(m)
				for i, e := range o.entries {
					if holds>>i&1 == 0 {
						continue
					}
					m[e.At] = api.Word{Val: int64(holds), Ver: uint32(7 * i), Ref: o.ref()}
					wanted[e.At] = api.Word{Val: int64(holds), Ver: uint32(7 * i)}
					if e.Write && status == done {
						wanted[e.At] = api.Word{Val: e.New, Ver: uint32(7*i + 1)}
					}
					acts++
				}
				what := fmt.Sprintf("status %d of %d, which holds %b", status, who, holds)
				x := m.run(t, what, of, o.ref(), false)
				if x.status != status || len(x.acts) != acts {
					t.Fatalf("%s: status %d after %d acts", what, x.status, len(x.acts))
				}
				m.expect(t, what, wanted)
			}
		}
	}
}

// P20.1, step 5: a word of the last version is left as it is where it would be written, and released where not.
func TestLastVersion(t *testing.T) {
	for _, x := range []struct {
		e      api.Entry
		status int
		leaves bool
	}{
		{written(60, 5, 2, 9), done, true}, {written(60, 5, 2, 9), failed, false}, {unwritten(60, 5, 2), done, false}, {unwritten(60, 5, 2), failed, false},
	} {
		o := op{2, 4, x.status, []api.Entry{x.e, written(61, 1, 1, 2)}}
		m := scene(of, o)
		m[60] = api.Word{Val: 8, Ver: math.MaxUint32, Ref: o.ref()}
		wanted := slices.Clone(m)
		acts := 3 + 6 + 1 + 2
		if !x.leaves {
			wanted[60].Ref = 0
			acts++
		}
		got := m.run(t, "the last version", of, o.ref(), false)
		want(t, "the status", got.status, x.status)
		want(t, "the acts", len(got.acts), acts)
		m.expect(t, "the last version", wanted)
	}
}

// P20.1, step 3: a word that another operation holds, by what has become of that operation.
func TestHeldByAnother(t *testing.T) {
	a, b, c := api.Loc(57), api.Loc(58), api.Loc(60)
	for _, who := range []int{2, 10} {
		mine := op{1, 3, open, []api.Entry{written(a, 1, 1, 2), written(b, 5, 5, 6), written(c, 7, 7, 8)}}
		other := op{who, 8, open, []api.Entry{written(b, 5, 5, 50), written(c, 7, 7, 70)}}
		reader := op{who, 8, open, []api.Entry{unwritten(b, 5, 5), unwritten(c, 7, 7)}}
		first, _ := placeOf(of, who)
		word := func(v int64, ver uint32) api.Word { return api.Word{Val: v, Ver: ver} }
		for _, x := range []struct {
			what    string
			other   op
			status  api.Word // of the other operation
			mine    int
			theirs  int64 // status afterwards
			a, b, c api.Word
			deepest int
		}{
			{"open", other, word(open, 8), failed, done, word(1, 1), word(50, 6), word(70, 8), 1},
			{"open, and only reads", reader, word(open, 8), done, done, word(2, 2), word(6, 6), word(8, 8), 1},
			{"done", other, word(done, 8), failed, done, word(1, 1), word(50, 6), word(7, 7), 1},
			{"done, and only read", reader, word(done, 8), done, done, word(2, 2), word(6, 6), word(8, 8), 1},
			{"failed", other, word(failed, 8), done, failed, word(2, 2), word(6, 6), word(8, 8), 1},
			{"a later number", other, word(open, 9), done, open, word(2, 2), word(6, 6), word(8, 8), 1},
			{"a later number, done", other, word(done, 9), done, done, word(2, 2), word(6, 6), word(8, 8), 1},
			{"an earlier number", other, word(failed, 7), done, failed, word(2, 2), word(6, 6), word(8, 8), 1},
			{"filled again", other, word(filling, 9), done, filling, word(2, 2), word(6, 6), word(8, 8), 1},
			{"filled", other, word(filling, 8), done, filling, word(2, 2), word(6, 6), word(8, 8), 1},
		} {
			m := scene(of, mine, other)
			copy(m[first:], x.other.words())
			m[first] = x.status
			m.hold(x.other, 1)
			got := m.run(t, x.what, of, mine.ref(), false)
			want(t, x.what+": the status", got.status, x.mine)
			want(t, x.what+": the other status", m[first].Val, x.theirs)
			want(t, x.what+": a", m[a], x.a)
			want(t, x.what+": b", m[b], x.b)
			want(t, x.what+": c", m[c], x.c)
			want(t, x.what+": Depth", got.deepest, x.deepest)
		}
	}
}

// P20.1, step 3: the reference of an earlier operation of the same slot is cleared away.
func TestHeldByAnEarlierNumber(t *testing.T) {
	for _, who := range owners {
		for _, seq := range []int{1, 2, 4, api.MaxSeq} {
			o := op{who, 3, open, list(4, 3)}
			for i, e := range o.entries {
				m := scene(of, o)
				m[e.At].Ref = ref(who, seq)
				x := m.run(t, "an earlier number", of, o.ref(), false)
				// a Look, the nested help's Look, and two Swaps more
				if x.status != done || len(x.acts) != 3+12+4+1+1+8+4 || m[e.At] != after(e) || x.deepest != 1 {
					t.Fatalf("number %d of %d at entry %d: status %d after %d acts, %+v, Depth %d", seq, who, i, x.status, len(x.acts), m[e.At], x.deepest)
				}
			}
		}
	}
}

// chain returns operations of which each holds its first location and needs the first one of the next.
func chain(l layout.Layout, whos []int) (image, []op) {
	var ops []op
	for i, who := range whos {
		o := op{who, i + 1, open, []api.Entry{written(cellAt(l, i), int64(i), 0, 100)}}
		if i+1 < len(whos) {
			o.entries = append(o.entries, written(cellAt(l, i+1), int64(i+1), 0, 200))
		}
		ops = append(ops, o)
	}
	m := scene(l, ops...)
	for _, o := range ops[1:] {
		m.hold(o, 1)
	}
	return m, ops
}

// P20.1, P20.3: helps inside one another, as deep as there are slots and blocks: each operation is helped once.
func TestChains(t *testing.T) {
	slots, blocks := []int{1, 2, 3, 4, 5, 6, 7, 8}, []int{}
	for who := 9; who <= 72; who++ {
		blocks = append(blocks, who)
	}
	for _, x := range []struct {
		l    layout.Layout
		whos []int
	}{{layout.Layout{Threads: 8, Cells: 8}, slots}, {layout.Layout{Threads: 1, Cells: 64, Blocks: 64}, blocks}} {
		for n := 1; n <= len(x.whos); n++ {
			m, ops := chain(x.l, x.whos[:n])
			got := m.run(t, "a chain", x.l, ops[0].ref(), n%2 == 0)
			want(t, "the greatest Depth", got.deepest, n-1)
			status := done // of the last one; that before it fails then, the next one is done, and so on
			for i, o := range slices.Backward(ops) {
				first, _ := placeOf(x.l, o.who)
				want(t, "a status", m[first].Val, int64(status))
				loads := 0
				for _, a := range got.acts {
					if a.Op == api.Load && a.At == first+1 {
						loads++
					}
				}
				want(t, "how often it is helped", loads, 1)
				if i == 0 {
					want(t, "the status of the first one", got.status, status)
				}
				status = done + failed - status
			}
		}
	}
}

// P20.1: the status of the operation changes ahead of each act, by another helper or by an owner that goes on; locations
// change as well. The help follows the definition.
func TestOvertaken(t *testing.T) {
	mine := op{1, 3, open, []api.Entry{written(57, 1, 1, 2), written(58, 5, 5, 6), unwritten(60, 7, 7)}}
	other := op{2, 8, open, []api.Entry{written(58, 5, 5, 50), written(60, 7, 7, 70)}}
	first, _ := placeOf(of, 1)
	changes := []func(m image){}
	for _, w := range []api.Word{{Val: done, Ver: 3}, {Val: failed, Ver: 3}, {Val: filling, Ver: 4}, {Val: open, Ver: 4}, {Val: open, Ver: 3, Ref: 1}, {}} {
		changes = append(changes, func(m image) { m[first] = w })
	}
	for _, e := range mine.entries {
		for _, w := range []api.Word{{}, {Val: 5, Ver: 5}, {Val: e.Old.Val, Ver: e.Old.Ver, Ref: mine.ref()}, {Val: 9, Ver: 9, Ref: mine.ref()}, {Val: e.Old.Val, Ver: e.Old.Ver, Ref: other.ref()}, {Val: 1, Ref: ref(3, 1)}} {
			changes = append(changes, func(m image) { m[e.At] = w })
		}
	}
	statuses := map[int]int{}
	for _, durable := range []bool{false, true} {
		for k := range 80 {
			for i, change := range changes {
				m := scene(of, mine, other)
				m.hold(other, 1)
				acts := 0
				x := follow(t, fmt.Sprintf("change %d ahead of act %d", i, k), of, mine.ref(), durable, 500, func(a api.Act) api.Got {
					if acts == k {
						change(m)
					}
					acts++
					return m.answer(a)
				})
				if x.ended { // not where the other operation holds a location that it has no entry for
					statuses[x.status]++
				}
			}
		}
	}
	for _, status := range []int{done, failed, stale} {
		if statuses[status] < 50 {
			t.Errorf("status %d: %d times", status, statuses[status])
		}
	}
}

// anyScene returns a memory with an operation of each owner at the same few cells, which mostly have what the operations
// expect, and are held by some of them.
func anyScene(r *rand.Rand, l layout.Layout) (image, []uint32) {
	m := image(l.First())
	var refs []uint32
	whos := []int{}
	for who := 1; who <= l.Threads; who++ {
		whos = append(whos, who)
	}
	for i := range l.Blocks {
		whos = append(whos, 9+i)
	}
	var ops []op
	for _, who := range whos {
		o := op{who, 1 + r.Intn(3), []int{open, open, open, done, failed, filling}[r.Intn(6)], nil}
		for i := range min(l.Cells, 6) {
			if r.Intn(2) == 0 {
				continue
			}
			e := written(cellAt(l, i), int64(i), uint32(i), int64(10*who+i))
			if r.Intn(3) == 0 {
				e = unwritten(e.At, e.Old.Val, e.Old.Ver)
			}
			if r.Intn(12) == 0 {
				e.Old.Ver++
			}
			o.entries = append(o.entries, e)
		}
		ops = append(ops, o)
		refs = append(refs, o.ref(), o.ref()+1)
	}
	for _, o := range ops {
		first, _ := placeOf(l, o.who)
		copy(m[first:], o.words())
	}
	for i := range min(l.Cells, 6) {
		m[cellAt(l, i)] = anyCell(r, i, refs)
	}
	return m, refs
}

func anyCell(r *rand.Rand, i int, refs []uint32) api.Word {
	w := api.Word{Val: int64(i), Ver: uint32(i)}
	switch r.Intn(8) {
	case 0, 1, 2:
		w.Ref = refs[r.Intn(len(refs))]
	case 3:
		w.Ref = []uint32{1, ref(8, 1), ref(72, 1), math.MaxUint32}[r.Intn(4)]
	case 4:
		w.Ver++
	}
	return w
}

// P20.1: random memories that others change all the time, and results that no memory gives.
func TestAnything(t *testing.T) {
	statuses, deep := map[int]int{}, 0
	for seed := range int64(6000) {
		r := rand.New(rand.NewSource(seed))
		l := layout.Layout{Threads: 1 + r.Intn(4), Cells: 2 + r.Intn(6), Blocks: r.Intn(3)}
		m, refs := anyScene(r, l)
		calm := 4 + r.Intn(60)
		var which uint32
		for which == 0 || !owned(l, which) {
			which = refs[r.Intn(len(refs))]
		}
		x := follow(t, fmt.Sprintf("seed %d", seed), l, which, r.Intn(2) == 0, 300, func(a api.Act) api.Got {
			if r.Intn(calm) == 0 {
				disturb(r, l, m, refs)
			}
			g := m.answer(a)
			if r.Intn(8*calm) == 0 {
				g = api.Got{Word: api.Word{Val: int64(r.Intn(12)), Ver: uint32(r.Intn(4)), Ref: refs[r.Intn(len(refs))] * uint32(r.Intn(2))}, OK: r.Intn(2) == 0}
			}
			return g
		})
		if x.ended {
			statuses[x.status]++
		}
		deep = max(deep, x.deepest)
	}
	for _, status := range []int{done, failed, stale} {
		if statuses[status] < 200 {
			t.Errorf("status %d: %d times", status, statuses[status])
		}
	}
	if deep < 5 {
		t.Errorf("the greatest Depth is %d", deep)
	}
}

// disturb changes a word of a memory.
func disturb(r *rand.Rand, l layout.Layout, m image, refs []uint32) {
	which := refs[r.Intn(len(refs))]
	first, most := placeOf(l, int(which>>24))
	switch r.Intn(4) {
	case 0:
		m[first] = api.Word{Val: int64(r.Intn(4)), Ver: uint32(1 + r.Intn(4))}
	case 1:
		m[int(first)+1+r.Intn(3*most)].Val += int64(r.Intn(3)) - 1
	case 2, 3:
		i := r.Intn(min(l.Cells, 6))
		m[cellAt(l, i)] = anyCell(r, i, refs)
	}
}
