package swap_test

import (
	"fmt"
	"math"
	"math/rand"
	"slices"
	"testing"

	"simulcast/api"
	"simulcast/arena"
	"simulcast/atom"
	"simulcast/desc"
	"simulcast/help"
	"simulcast/layout"
	"simulcast/swap"
	"simulcast/task"
)

// P21.1: the acts of swaps of every size that meet no other one.
func TestActs(t *testing.T) {
	for thread := 1; thread <= 3; thread++ {
		slot := of.Slot(thread)
		for n := 1; n <= 32; n++ {
			entries := list(of, n, thread)
			m := scene(of, entries...)
			x := m.run(t, "a swap", of, false, newSwap(t, of, thread, 7, false, entries...), swapping(thread, 7, entries...))
			// a Look, a Release, the Stores, a Release, and the help
			if !x.answer || len(x.acts) != 1+1+1+3*n+1+3+3*n+n+1+1+2*n {
				t.Fatalf("%d entries: %v after %d acts", n, x.answer, len(x.acts))
			}
			want(t, "first a Look", x.acts[0], api.Act{Op: api.Look, At: slot})
			want(t, "then Filling", x.acts[1], api.Act{Op: api.Release, At: slot, New: api.Word{Val: filling, Ver: 7}})
			want(t, "the count", x.acts[2], api.Act{Op: api.Store, At: slot + 1, New: api.Word{Val: int64(n)}})
			for i, e := range entries {
				for part, w := range desc.Pack(e) {
					at := 3*i + part
					want(t, "a word of an entry", x.acts[3+at], api.Act{Op: api.Store, At: slot + 2 + api.Loc(at), New: w})
				}
			}
			want(t, "then Open", x.acts[3+3*n], api.Act{Op: api.Release, At: slot, New: api.Word{Val: open, Ver: 7}})
			for _, e := range entries {
				want(t, "a word", m[e.At], after(e))
			}
			want(t, "the status word", m[slot], api.Word{Val: done, Ver: 7})
		}
	}
}

// flushed returns the lines that the acts flush, in order.
func flushed(acts []api.Act) []api.Loc {
	var lines []api.Loc
	for _, a := range acts {
		if a.Op == api.Flush {
			lines = append(lines, a.At/8)
		}
	}
	slices.Sort(lines)
	return lines
}

// P21.1: the acts that a durable swap has in addition, and the lines of the words that they flush: each line once.
func TestDurableActs(t *testing.T) {
	for thread := 1; thread <= 3; thread++ {
		slot := of.Slot(thread)
		for n := 1; n <= 32; n++ {
			entries := list(of, n, thread)
			var lines []api.Loc
			for at := slot + 1; at <= slot+1+api.Loc(3*n); at++ {
				lines = append(lines, at/8)
			}
			lines = slices.Compact(lines)
			m := scene(of, entries...)
			x := m.run(t, "a durable swap", of, true, newSwap(t, of, thread, 7, true, entries...), swapping(thread, 7, entries...))
			ends := []int{}
			for i, a := range x.acts {
				if a.Op == api.Sync {
					ends = append(ends, i)
				}
			}
			stores := 4 + 1 + 3*n
			wanted := []int{3, stores + len(lines), stores + len(lines) + 3}
			if !x.answer || !slices.Equal(ends[:3], wanted) || len(ends) != 6 {
				t.Fatalf("%d entries: Syncs at %v, wanted %v and 3 more", n, ends, wanted)
			}
			first, second, third := flushed(x.acts[:wanted[0]]), flushed(x.acts[wanted[0]:wanted[1]]), flushed(x.acts[wanted[1]:wanted[2]])
			if !slices.Equal(first, []api.Loc{slot / 8}) || !slices.Equal(second, lines) || !slices.Equal(third, first) {
				t.Fatalf("%d entries of slot %d: lines %v, %v, %v are flushed, wanted %v", n, slot, first, second, third, lines)
			}
			want(t, "Filling, and a Flush", x.acts[1].Op == api.Release && x.acts[2].Op == api.Flush, true)
			want(t, "Open, and a Flush", x.acts[wanted[1]+1].Op == api.Release && x.acts[wanted[1]+2].Op == api.Flush, true)
			for i := 4; i < stores; i++ {
				want(t, "only Stores", x.acts[i].Op, api.Store)
			}
		}
	}
}

// P21.1, step 1: the Ver of the status word, with each status and some beside them, and other words in its Ref.
func TestStatusWords(t *testing.T) {
	entries := list(of, 2, 11)
	for _, seq := range []int{1, 2, 9, api.MaxSeq} {
		for _, val := range []int64{0, 1, 2, 3, 4, -1, 1 << 32, 1<<32 + 1, math.MaxInt64, math.MinInt64} {
			for _, ver := range []int64{0, 1, int64(seq) - 1, int64(seq), int64(seq) + 1, 1<<24 + 1, math.MaxUint32} {
				for _, r := range []uint32{0, 1, ref(2, max(1, seq-1)), math.MaxUint32} {
					m := scene(of, entries...)
					m[of.Slot(2)] = api.Word{Val: val, Ver: uint32(ver), Ref: r}
					before := slices.Clone(m)
					what := fmt.Sprintf("number %d on the status word %+v", seq, m[of.Slot(2)])
					x := m.run(t, what, of, seq%2 == 0, newSwap(t, of, 2, seq, seq%2 == 0, entries...), swapping(2, seq, entries...))
					want(t, what, x.answer, ver < int64(seq))
					if ver >= int64(seq) {
						want(t, what+": acts", len(x.acts), 1)
						m.expect(t, what, before)
					}
				}
			}
		}
	}
}

// P21.1, step 1: what the slot's last swap has left behind is completed if it is open or done; else it is overwritten.
func TestLastSwap(t *testing.T) {
	for _, durable := range []bool{false, true} {
		for status := open; status <= filling; status++ {
			for _, ver := range []int{4, 5, 6} {
				for holds := range 4 {
					last := op(2, ver, status, list(of, 3, 12)...)
					mine := []api.Entry{written(of.Cell(20), 0, 0, 9)}
					m := scene(of, append(last.Entries, mine...)...)
					m.put(t, of, last, holds)
					before := slices.Clone(m)
					what := fmt.Sprintf("the last swap has number %d, status %d, and holds %d", ver, status, holds)
					x := m.run(t, what, of, durable, newSwap(t, of, 2, 5, durable, mine...), swapping(2, 5, mine...))
					want(t, what, x.answer, ver < 5)
					if ver >= 5 {
						m.expect(t, what, before)
						continue
					}
					completed := status == open || status == done
					for i, e := range last.Entries {
						w := before[e.At]
						if completed && (i < holds || status == open) {
							w = after(e)
						}
						want(t, what+": a word", m[e.At], w)
					}
					want(t, what+": the word of the new one", m[mine[0].At], after(mine[0]))
				}
			}
		}
	}
}

// P21.1, step 6: a swap fails at each of its entries.
func TestFails(t *testing.T) {
	for n := 1; n <= 6; n++ {
		entries := list(of, n, 4)
		for i, e := range entries {
			for _, w := range []api.Word{{Val: e.Old.Val + 1, Ver: e.Old.Ver}, {Val: e.Old.Val, Ver: e.Old.Ver + 1}, {Val: e.Old.Val, Ver: e.Old.Ver, Ref: ref(8, 1)}, {Val: e.New, Ver: 77}} {
				for _, durable := range []bool{false, true} {
					m := scene(of, entries...)
					m[e.At] = w
					wanted := slices.Clone(m[:of.Slot(1)])
					what := fmt.Sprintf("entry %d of %d finds %+v", i, n, w)
					x := m.run(t, what, of, durable, newSwap(t, of, 3, 8, durable, entries...), swapping(3, 8, entries...))
					want(t, what, x.answer, false)
					m.expect(t, what, wanted)
					want(t, what+": the status word", m[of.Slot(3)], api.Word{Val: failed, Ver: 8})
				}
			}
		}
	}
}

// P21.1, steps 5 and 6: others complete the swap, or its slot is used again, in the midst of it.
func TestOvertaken(t *testing.T) {
	entries := list(of, 2, 11)
	slot := of.Slot(1)
	for _, durable := range []bool{false, true} {
		for k := range 60 {
			for _, w := range []api.Word{{Val: done, Ver: 5}, {Val: failed, Ver: 5}, {Val: open, Ver: 5}, {Val: filling, Ver: 6}, {Val: done, Ver: 6}, {Val: done, Ver: 4}, {Val: done, Ver: 5, Ref: 1}} {
				m, acts := scene(of, entries...), 0
				follow(t, fmt.Sprintf("%+v ahead of act %d", w, k), of, durable, newSwap(t, of, 1, 5, durable, entries...), swapping(1, 5, entries...), 300, func(a api.Act) api.Got {
					if acts == k {
						m[slot] = w
					}
					acts++
					return m.answer(a)
				})
			}
		}
	}
}

// P21.1: Simple at plain words, those that it expects and others.
func TestSimple(t *testing.T) {
	for _, at := range []api.Loc{of.Record(1), of.Record(3) + 2, of.Cell(0), of.Cell(39)} {
		for _, e := range []api.Entry{written(at, 5, 2, 9), written(at, 5, 2, 5), written(at, math.MinInt64, 0, math.MaxInt64), written(at, 0, math.MaxUint32-1, 1)} {
			m := scene(of, e)
			x := m.run(t, "Simple", of, false, newSimple(t, of, false, e), simply(e))
			if !x.answer || !slices.Equal(x.acts, []api.Act{{Op: api.Look, At: at}, {Op: api.Swap, At: at, Old: e.Old, New: after(e)}}) {
				t.Errorf("Simple of %+v: %v, %+v", e, x.answer, x.acts)
			}
			want(t, "the word", m[at], after(e))
			m = scene(of, e)
			x = m.run(t, "Simple, durable", of, true, newSimple(t, of, true, e), simply(e))
			if !x.answer || !slices.Equal(x.acts[1:], []api.Act{{Op: api.Swap, At: at, Old: e.Old, New: after(e)}, {Op: api.Flush, At: at}, {Op: api.Sync}}) {
				t.Errorf("Simple of %+v, durable: %v, %+v", e, x.answer, x.acts)
			}
			for _, w := range []api.Word{{Val: e.Old.Val + 1, Ver: e.Old.Ver}, {Val: e.Old.Val, Ver: e.Old.Ver + 1}, {Val: e.Old.Val, Ver: e.Old.Ver - 1}, after(e)} {
				for _, durable := range []bool{false, true} {
					m := scene(of)
					m[at] = w
					x := m.run(t, "Simple fails", of, durable, newSimple(t, of, durable, e), simply(e))
					acts := []api.Act{{Op: api.Look, At: at}, {Op: api.Flush, At: at}, {Op: api.Sync}}
					if !durable {
						acts = acts[:1]
					}
					if x.answer || m[at] != w || !slices.Equal(x.acts, acts) {
						t.Errorf("Simple of %+v at %+v: %v, %+v", e, w, x.answer, x.acts)
					}
				}
			}
		}
	}
}

// P21.1: Simple at a word that another operation holds, by what has become of that operation.
func TestSimpleHeld(t *testing.T) {
	at := of.Cell(3)
	mine := written(at, 5, 2, 9)
	writes, reads, misses := written(at, 5, 2, 70), unwritten(at, 5, 2), unwritten(of.Cell(4), 1, 1)
	for _, who := range []int{1, 2, 3, 9, 10} {
		for _, x := range []struct {
			what    string
			entries []api.Entry
			status  api.Word
			answer  bool
			word    api.Word
			acts    int // beside the help's and a Look
		}{
			{"open", []api.Entry{writes}, api.Word{Val: open, Ver: 8}, false, after(writes), 1},
			{"open, and only reads", []api.Entry{reads}, api.Word{Val: open, Ver: 8}, true, after(mine), 2},
			{"open, and fails", []api.Entry{writes, misses}, api.Word{Val: open, Ver: 8}, true, after(mine), 2},
			{"done", []api.Entry{writes}, api.Word{Val: done, Ver: 8}, false, after(writes), 1},
			{"done, and only read", []api.Entry{reads}, api.Word{Val: done, Ver: 8}, true, after(mine), 2},
			{"failed", []api.Entry{writes}, api.Word{Val: failed, Ver: 8}, true, after(mine), 2},
			{"of a later number", []api.Entry{writes}, api.Word{Val: open, Ver: 9}, true, after(mine), 3},
			{"of an earlier number", []api.Entry{writes}, api.Word{Val: done, Ver: 7}, true, after(mine), 3},
			{"filled again", []api.Entry{writes}, api.Word{Val: filling, Ver: 8}, true, after(mine), 3},
		} {
			for _, durable := range []bool{false, true} {
				o := op(who, 8, open, x.entries...)
				m := scene(of, mine)
				m.put(t, of, o, 1)
				m[placeOf(of, who)] = x.status
				c, _ := help.New(of, refOf(o), durable)
				acts := helped(c, slices.Clone(m))
				what := fmt.Sprintf("held by %d, which is %s", who, x.what)
				got := m.run(t, what, of, durable, newSimple(t, of, durable, mine), simply(mine))
				want(t, what, got.answer, x.answer)
				want(t, what+": the word", m[at], x.word)
				more := 1 + acts + x.acts
				if durable {
					more += 2
				}
				want(t, what+": acts", len(got.acts), more)
			}
		}
	}
}

// helped lets a help run on a memory, and returns how many acts it has.
func helped(c task.Code, m image) int {
	c, act, finished := c.Next(api.Got{})
	n := 0
	for ; !finished; n++ {
		c, act, finished = c.Next(m.answer(act))
	}
	return n
}

// P21.1: a word with a reference of nobody, or of an owner that the layout does not have, stands for its Val and Ver.
func TestSimpleHeldByNobody(t *testing.T) {
	at := of.Cell(3)
	e := written(at, 5, 2, 9)
	for _, r := range []uint32{1, api.MaxSeq, ref(1, 0), ref(4, 1), ref(8, 3), ref(11, 1), ref(72, api.MaxSeq), ref(73, 1), math.MaxUint32} {
		for _, w := range []api.Word{{Val: 5, Ver: 2}, {Val: 6, Ver: 2}, {Val: 5, Ver: 3}} {
			for _, durable := range []bool{false, true} {
				m := scene(of, e)
				m[at] = api.Word{Val: w.Val, Ver: w.Ver, Ref: r}
				x := m.run(t, "held by nobody", of, durable, newSimple(t, of, durable, e), simply(e))
				want(t, fmt.Sprintf("%+v with reference %x", w, r), x.answer, w == e.Old)
				if x.answer {
					want(t, "the word", m[at], after(e))
				}
			}
		}
	}
}

// P21.1: another thread changes the word between the Look and the Swap, once or several times.
func TestSimpleOvertaken(t *testing.T) {
	at := of.Cell(3)
	e := written(at, 5, 2, 9)
	reader := op(2, 4, open, unwritten(at, 5, 2))
	writer := op(9, 4, open, written(at, 5, 2, 70))
	gone := op(3, 4, done, written(at, 5, 2, 70))
	for what, x := range map[string]struct {
		words  []api.Word // ahead of the first Swap, ahead of the second, ..
		answer bool
		swaps  int // at the location, beside those of helps
	}{
		"another value":            {[]api.Word{{Val: 6, Ver: 2}}, false, 1},
		"another version":          {[]api.Word{{Val: 5, Ver: 3}}, false, 1},
		"what it would write":      {[]api.Word{{Val: 9, Ver: 3}}, false, 1},
		"held by one that reads":   {[]api.Word{{Val: 5, Ver: 2, Ref: refOf(reader)}}, true, 2},
		"held by one that writes":  {[]api.Word{{Val: 5, Ver: 2, Ref: refOf(writer)}}, false, 1},
		"held by one that is done": {[]api.Word{{Val: 5, Ver: 2, Ref: refOf(gone)}}, false, 1},
		"held by one that is gone": {[]api.Word{{Val: 5, Ver: 2, Ref: ref(3, 3)}}, true, 2},
		"held by a missing owner":  {[]api.Word{{Val: 5, Ver: 2, Ref: ref(8, 3)}}, true, 2},
		"malformed":                {[]api.Word{{Val: 5, Ver: 2, Ref: 1}}, true, 2},
		"malformed, another value": {[]api.Word{{Val: 6, Ver: 2, Ref: 1}}, false, 1},
		"held, then another value": {[]api.Word{{Val: 5, Ver: 2, Ref: ref(3, 3)}, {Val: 1, Ver: 2}}, false, 2},
		"held again and again":     {[]api.Word{{Val: 5, Ver: 2, Ref: ref(3, 3)}, {Val: 5, Ver: 2, Ref: refOf(reader)}, {Val: 5, Ver: 2, Ref: 7}}, true, 4},
	} {
		for _, durable := range []bool{false, true} {
			m := scene(of, e)
			m.put(t, of, reader, 0)
			m.put(t, of, writer, 0)
			m.put(t, of, gone, 0)
			words, swaps := x.words, 0
			got := follow(t, what, of, durable, newSimple(t, of, durable, e), simply(e), 500, func(a api.Act) api.Got {
				if a.Op == api.Swap && a.At == at && a.New == after(e) {
					swaps++
					if len(words) > 0 {
						m[at], words = words[0], words[1:]
					}
				}
				return m.answer(a)
			})
			want(t, what+": finished", got.ended, true)
			want(t, what, got.answer, x.answer)
			want(t, what+": Swaps", swaps, x.swaps)
		}
	}
}

// anyList returns random entries at the first cells, which mostly expect what anyImage leaves there.
func anyList(r *rand.Rand, l layout.Layout) []api.Entry {
	var entries []api.Entry
	for i := range l.Cells {
		if r.Intn(2) == 0 {
			continue
		}
		e := written(l.Cell(i), int64(i), uint32(i), int64(r.Intn(50)))
		if r.Intn(3) == 0 {
			e = unwritten(e.At, e.Old.Val, e.Old.Ver)
		}
		if r.Intn(12) == 0 {
			e.Old.Ver++
		}
		entries = append(entries, e)
	}
	if len(entries) == 0 {
		return []api.Entry{written(l.Cell(0), 0, 0, 1)}
	}
	return entries
}

// anyImage returns a memory with an operation of each owner, and the references of these and of their next numbers.
func anyImage(t *testing.T, r *rand.Rand, l layout.Layout) (image, []uint32) {
	t.Helper()
	m := image(l.First())
	var refs []uint32
	for who := 1; who <= 8+l.Blocks; who++ {
		if owned(l, ref(who, 1)) {
			o := op(who, 1+r.Intn(3), anyStatus(r), anyList(r, l)...)
			m.put(t, l, o, 0)
			refs = append(refs, refOf(o), refOf(o)+1)
		}
	}
	for i := range l.Cells {
		m[l.Cell(i)] = anyCell(r, i, refs)
	}
	return m, refs
}

func anyStatus(r *rand.Rand) int {
	return []int{open, open, open, done, failed, filling}[r.Intn(6)]
}

func anyCell(r *rand.Rand, i int, refs []uint32) api.Word {
	w := api.Word{Val: int64(i), Ver: uint32(i)}
	switch r.Intn(8) {
	case 0, 1:
		w.Ref = refs[r.Intn(len(refs))]
	case 2:
		w.Ref = []uint32{1, ref(8, 1), ref(72, 1), math.MaxUint32}[r.Intn(4)]
	case 3:
		w.Ver++
	}
	return w
}

// anyCode returns the code of a random swap, and its definition.
func anyCode(t *testing.T, r *rand.Rand, l layout.Layout, durable bool) (task.Code, program) {
	t.Helper()
	entries := anyList(r, l)
	if r.Intn(2) == 0 {
		e := written(entries[0].At, entries[0].Old.Val, entries[0].Old.Ver, int64(r.Intn(50)))
		return newSimple(t, l, durable, e), simply(e)
	}
	thread, seq := 1+r.Intn(l.Threads), 1+r.Intn(6)
	return newSwap(t, l, thread, seq, durable, entries...), swapping(thread, seq, entries...)
}

// P21.1: random memories that others change all the time, and results that no memory gives.
func TestAnything(t *testing.T) {
	answers := map[bool]int{}
	for seed := range int64(4000) {
		r := rand.New(rand.NewSource(seed))
		l := layout.Layout{Threads: 1 + r.Intn(4), Cells: 1 + r.Intn(6), Blocks: r.Intn(3)}
		m, refs := anyImage(t, r, l)
		calm := 4 + r.Intn(60)
		durable := r.Intn(2) == 0
		c, as := anyCode(t, r, l, durable)
		x := follow(t, fmt.Sprintf("seed %d", seed), l, durable, c, as, 300, func(a api.Act) api.Got {
			if r.Intn(calm) == 0 {
				disturb(r, l, m, refs)
			}
			g := m.answer(a)
			if r.Intn(8*calm) == 0 {
				g = api.Got{Word: api.Word{Val: int64(r.Intn(12)), Ver: uint32(r.Intn(4)), Ref: refs[r.Intn(len(refs))] * uint32(r.Intn(2))}, OK: r.Intn(2) == 0}
			}
			return g
		})
		if x.ended {
			answers[x.answer]++
		}
	}
	if answers[true] < 500 || answers[false] < 500 {
		t.Errorf("the answers are %v", answers)
	}
}

// disturb changes a word of a memory.
func disturb(r *rand.Rand, l layout.Layout, m image, refs []uint32) {
	at := placeOf(l, int(refs[r.Intn(len(refs))]>>24))
	switch r.Intn(4) {
	case 0:
		m[at] = api.Word{Val: int64(r.Intn(4)), Ver: uint32(1 + r.Intn(4))}
	case 1:
		m[int(at)+1+r.Intn(20)].Val += int64(r.Intn(3)) - 1
	case 2, 3:
		i := r.Intn(l.Cells)
		m[l.Cell(i)] = anyCell(r, i, refs)
	}
}

// other is a code of no layer.
type other struct{ done bool }

func (o *other) Next(api.Got) (task.Code, api.Act, bool) { return o, api.Act{}, true }

// wrapper is a code of no layer with another one inside.
type wrapper struct{ task.Code }

// P21.1: Answer of no code, and of codes of other packages, finished or not.
func TestOtherCodes(t *testing.T) {
	expectAnswer(t, "no code", nil, false, false)
	expectAnswer(t, "a code of nobody", &other{true}, false, false)
	expectAnswer(t, "a code of nobody, nil", (*other)(nil), false, false)
	expectAnswer(t, "the code of the zero task", task.Task{}.Code(), false, false)
	add, _ := atom.New(atom.Op{Kind: atom.Add, N: 1})
	take, _ := arena.Take(of, 0)
	one, _ := help.New(of, ref(1, 1), true)
	for _, c := range []task.Code{add, take, one} {
		w := task.Start(c)
		for !w.Done() {
			expectAnswer(t, "a code of another layer", w.Code(), false, false)
			w = w.Give(api.Got{OK: true})
		}
		expectAnswer(t, "a code of another layer, finished", w.Code(), false, false)
	}
	e := written(60, 0, 0, 1)
	for _, c := range []task.Code{newSimple(t, of, false, e), newSwap(t, of, 1, 1, false, e)} {
		w, _ := alone(t, world(t, of.First(), c), 1)
		end := w.Tasks[0].Code()
		expectAnswer(t, "finished", end, true, true)
		expectAnswer(t, "inside another", wrapper{end}, false, false)
		expectAnswer(t, "nothing inside another", wrapper{}, false, false)
	}
}

// state is a code on its way, with the result that it was resumed with.
type state struct {
	code task.Code
	got  api.Got
}

func answerOf(c task.Code) [2]bool {
	answer, ok := swap.Answer(c)
	return [2]bool{answer, ok}
}

// 'Values': each state of a swap continues in the same way however often it is resumed, and whatever it got elsewhere.
func TestCodesAreValues(t *testing.T) {
	for seed := range int64(150) {
		r := rand.New(rand.NewSource(seed))
		l := layout.Layout{Threads: 3, Cells: 5, Blocks: 1}
		m, refs := anyImage(t, r, l)
		c, _ := anyCode(t, r, l, seed%2 == 0)
		var states []state
		var acts []api.Act
		var answers [][2]bool
		s := state{code: c}
		for range 120 {
			states = append(states, s)
			next, act, finished := s.code.Next(s.got)
			acts, answers = append(acts, act), append(answers, answerOf(next))
			if finished {
				break
			}
			s = state{next, m.answer(act)}
		}
		for range 400 {
			c := states[r.Intn(len(states))].code
			for range r.Intn(6) {
				g := states[r.Intn(len(states))].got
				if r.Intn(2) == 0 {
					g.OK = !g.OK
				}
				if r.Intn(2) == 0 {
					g.Word.Ref = refs[r.Intn(len(refs))]
				}
				c, _, _ = c.Next(g)
			}
		}
		// The last state first: going on from an earlier one could repair what the others have done to the later ones.
		for i, s := range slices.Backward(states) {
			next, act, finished := s.code.Next(s.got)
			if act != acts[i] || answerOf(next) != answers[i] || finished && i < len(states)-1 {
				t.Fatalf("seed %d, state %d: %+v, finished %v, wanted %+v", seed, i, act, finished, acts[i])
			}
			for j := i + 1; j < len(states) && !finished; j++ {
				next, act, finished = next.Next(states[j].got)
				if act != acts[j] || answerOf(next) != answers[j] {
					t.Fatalf("seed %d, from state %d on: act %d is %+v, wanted %+v", seed, i, j, act, acts[j])
				}
			}
		}
	}
}
