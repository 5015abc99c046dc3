package block_test

import (
	"fmt"
	"math"
	"math/rand"
	"slices"
	"testing"

	"simulcast/api"
	"simulcast/arena"
	"simulcast/desc"
	"simulcast/layout"
	"simulcast/task"
)

// expectHeld checks which block a swap held ahead of each of its acts: from the end of the Take, of so many acts, to the
// beginning of the Give, of so many acts.
func expectHeld(t *testing.T, x trace, take, give, who int) {
	t.Helper()
	for i, got := range x.who {
		wanted := who
		if i < take || i >= len(x.who)-give {
			wanted = 0
		}
		want(t, fmt.Sprintf("Who ahead of act %d of %d", i, len(x.who)), got, wanted)
	}
}

// P23.1: the acts of swaps of every size that meet no other one, in each block.
func TestActs(t *testing.T) {
	for number := range 2 {
		at := of.Block(number)
		bitmap, bit := of.Bits(number)
		for n := 1; n <= 10; n++ {
			entries := list(of, n, number)
			m := scene(of, entries...)
			m[at].Ver = 6
			m[bitmap] = api.Word{Val: bit - 1, Ver: 3}
			x := m.run(t, "a swap", of, false, entries...)
			// the Take, a Look, a Release, the Stores, a Release, the help, and the Give
			if (x.end != outcome{true, api.OK, true, 0}) || len(x.acts) != 2+1+1+1+3*n+1+3+3*n+n+1+1+2*n+2 {
				t.Fatalf("%d entries: %+v after %d acts", n, x.end, len(x.acts))
			}
			expectHeld(t, x, 2, 2, 9+number)
			free, used := api.Word{Val: bit - 1, Ver: 3}, api.Word{Val: 2*bit - 1, Ver: 3}
			want(t, "first a Look at the bitmap", x.acts[0], api.Act{Op: api.Look, At: bitmap})
			want(t, "then a Swap there", x.acts[1], api.Act{Op: api.Swap, At: bitmap, Old: free, New: used})
			want(t, "then a Look at the block", x.acts[2], api.Act{Op: api.Look, At: at})
			want(t, "then Filling", x.acts[3], api.Act{Op: api.Release, At: at, New: api.Word{Val: filling, Ver: 7}})
			want(t, "the count", x.acts[4], api.Act{Op: api.Store, At: at + 1, New: api.Word{Val: int64(n)}})
			for i, e := range entries {
				for part, w := range desc.Pack(e) {
					k := 3*i + part
					want(t, "a word of an entry", x.acts[5+k], api.Act{Op: api.Store, At: at + 2 + api.Loc(k), New: w})
				}
			}
			want(t, "then Open", x.acts[5+3*n], api.Act{Op: api.Release, At: at, New: api.Word{Val: open, Ver: 7}})
			want(t, "at last a Swap at the bitmap", x.acts[len(x.acts)-1], api.Act{Op: api.Swap, At: bitmap, Old: used, New: free})
			for _, e := range entries {
				want(t, "a word", m[e.At], after(e))
			}
			want(t, "the status word", m[at], api.Word{Val: done, Ver: 7})
			want(t, "the bitmap", m[bitmap], free)
		}
	}
}

// flushed returns the lines that the acts flush, in order.
func flushed(acts []api.Act) []api.Loc {
	var lines []api.Loc
	for _, a := range acts {
		if a.Op == api.Flush {
			lines = append(lines, a.At/8)
		}
	}
	slices.Sort(lines)
	return lines
}

// P23.1: the acts that a durable swap has in addition, and the lines of the words that they flush: each line once.
func TestDurableActs(t *testing.T) {
	for number := range 2 {
		at := of.Block(number)
		for n := 1; n <= 10; n++ {
			entries := list(of, n, number)
			var lines []api.Loc
			for w := at + 1; w <= at+1+api.Loc(3*n); w++ {
				lines = append(lines, w/8)
			}
			lines = slices.Compact(lines)
			m := scene(of, entries...)
			m.used(t, of, []int{0}[:number]...)
			x := m.run(t, "a durable swap", of, true, entries...)
			expectHeld(t, x, 2, 2, 9+number)
			ends := []int{}
			for i, a := range x.acts {
				if a.Op == api.Sync {
					ends = append(ends, i)
				}
			}
			stores := 6 + 1 + 3*n
			wanted := []int{5, stores + len(lines), stores + len(lines) + 3}
			if !x.end.done || !slices.Equal(ends[:3], wanted) || len(ends) != 6 {
				t.Fatalf("%d entries: Syncs at %v, wanted %v and 3 more", n, ends, wanted)
			}
			first, second, third := flushed(x.acts[:wanted[0]]), flushed(x.acts[wanted[0]:wanted[1]]), flushed(x.acts[wanted[1]:wanted[2]])
			if !slices.Equal(first, []api.Loc{at / 8}) || !slices.Equal(second, lines) || !slices.Equal(third, first) {
				t.Fatalf("%d entries in the block at %d: lines %v, %v, %v are flushed, wanted %v", n, at, first, second, third, lines)
			}
			want(t, "Filling, and a Flush", x.acts[3].Op == api.Release && x.acts[4].Op == api.Flush, true)
			want(t, "Open, and a Flush", x.acts[wanted[1]+1].Op == api.Release && x.acts[wanted[1]+2].Op == api.Flush, true)
			for i := 6; i < stores; i++ {
				want(t, "only Stores", x.acts[i].Op, api.Store)
			}
		}
	}
}

// P23.1, step 1: of the free blocks of an arena the first one is used; if there is none, nothing is.
func TestFreeBlocks(t *testing.T) {
	for _, n := range []int{1, 2, 3, 32, 33, 64} {
		l := layout.Layout{Threads: 2, Cells: 5, Blocks: n}
		entries := list(l, 3, 4)
		for first := range n + 1 {
			var numbers []int
			for i := range n {
				if i < first || i > first && i%3 == 0 {
					numbers = append(numbers, i)
				}
			}
			m := scene(l, entries...)
			m.used(t, l, numbers...)
			before := slices.Clone(m)
			what := fmt.Sprintf("%d blocks, the first free one is %d", n, first)
			x := m.run(t, what, l, first%2 == 0, entries...)
			if !slices.Equal(arena.Used(l, m), numbers) {
				t.Fatalf("%s: then blocks %v are used, wanted %v", what, arena.Used(l, m), numbers)
			}
			if first < n {
				want(t, what, x.end, outcome{true, api.OK, true, 0})
				want(t, what+": its status word", m[l.Block(first)], api.Word{Val: done, Ver: 1})
				want(t, what+": Who behind the Take", x.who[2+first/32], 9+first)
				continue
			}
			want(t, what, x.end, outcome{false, api.ErrFull, true, 0})
			want(t, what+": acts", len(x.acts), (n+31)/32)
			expectHeld(t, x, len(x.acts), 0, 0)
			m.expect(t, what, before)
		}
	}
}

// P23.1, step 2: the Ver of the block's first word, with each status and some beside them, and with a Ref. A block without
// a number that is left is given back.
func TestFirstWords(t *testing.T) {
	entries := list(of, 2, 11)
	for _, val := range []int64{0, 1, 2, 3, 4, -1, 1 << 32, math.MaxInt64, math.MinInt64} {
		for _, ver := range []uint32{0, 1, 2, 1<<24 - 3, 1<<24 - 2, 1<<24 - 1, 1 << 24, 1<<24 + 1, 1 << 31, math.MaxUint32 - 1, math.MaxUint32} {
			for _, r := range []uint32{0, 1, ref(9, 1), math.MaxUint32} {
				for _, durable := range []bool{false, true} {
					m := scene(of, entries...)
					m[of.Block(0)] = api.Word{Val: val, Ver: ver, Ref: r}
					before := slices.Clone(m)
					what := fmt.Sprintf("a block with the first word %+v", m[of.Block(0)])
					x := m.run(t, what, of, durable, entries...)
					want(t, what+": used blocks", len(arena.Used(of, m)), 0)
					if ver < api.MaxSeq {
						want(t, what, x.end, outcome{true, api.OK, true, 0})
						want(t, what+": the first word", m[of.Block(0)], api.Word{Val: done, Ver: ver + 1})
						continue
					}
					want(t, what, x.end, outcome{false, api.ErrFull, true, 0})
					want(t, what+": acts", len(x.acts), 2+1+2)
					expectHeld(t, x, 2, 2, 9)
					m.expect(t, what, before)
				}
			}
		}
	}
}

// P23.1, P23.2: the numbers of a block run out while it is used again and again.
func TestNumbersRunOut(t *testing.T) {
	l := layout.Layout{Threads: 1, Cells: 1, Blocks: 2}
	at := l.Cell(0)
	m := scene(l)
	m[l.Block(0)].Ver = api.MaxSeq - 3
	for i := range 6 {
		x := m.run(t, "again", l, i%2 == 0, written(at, int64(i), uint32(i), int64(i+1)))
		if i < 3 {
			want(t, "done", x.end, outcome{true, api.OK, true, 0})
			want(t, "the word", m[at], api.Word{Val: int64(i + 1), Ver: uint32(i + 1)})
			want(t, "the status word", m[l.Block(0)], api.Word{Val: done, Ver: api.MaxSeq - 2 + uint32(i)})
			continue
		}
		want(t, "no number is left", x.end, outcome{false, api.ErrFull, true, 0})
		want(t, "the word", m[at], api.Word{Val: 3, Ver: 3})
	}
	m.used(t, l, 0)
	x := m.run(t, "in the other block", l, false, written(at, 3, 3, 4))
	want(t, "done", x.end, outcome{true, api.OK, true, 0})
}

// P23.2: a swap fails at each of its entries, and changes nothing; one that writes nothing is done or fails.
func TestFails(t *testing.T) {
	for n := 1; n <= 10; n++ {
		for _, reads := range []bool{false, true} {
			entries := list(of, n, 4)
			for i, e := range entries {
				if reads {
					entries[i] = unwritten(e.At, e.Old.Val, e.Old.Ver)
				}
			}
			m := scene(of, entries...)
			x := m.run(t, "a swap", of, n%2 == 0, entries...)
			want(t, "done", x.end, outcome{true, api.OK, true, 0})
			for _, e := range entries {
				want(t, "a word", m[e.At], after(e))
			}
			for i, e := range entries {
				for _, w := range []api.Word{{Val: e.Old.Val + 1, Ver: e.Old.Ver}, {Val: e.Old.Val, Ver: e.Old.Ver + 1}, {Val: e.Old.Val, Ver: e.Old.Ver, Ref: ref(8, 1)}, {Val: e.New - 1, Ver: 77}} {
					for _, durable := range []bool{false, true} {
						m := scene(of, entries...)
						m[e.At] = w
						wanted := slices.Clone(m[:of.Block(0)])
						what := fmt.Sprintf("entry %d of %d finds %+v", i, n, w)
						x := m.run(t, what, of, durable, entries...)
						want(t, what, x.end, outcome{false, api.OK, true, 0})
						expectHeld(t, x, 2, 2, 9)
						m.expect(t, what, wanted)
						want(t, what+": the status word", m[of.Block(0)], api.Word{Val: failed, Ver: 1})
					}
				}
			}
		}
	}
}

// P23.1, P23.2: a swap meets another one that is open, done, failed or gone, in a slot or in a block.
func TestMeetsAnother(t *testing.T) {
	at := of.Cell(3)
	mine := []api.Entry{written(of.Cell(2), 8, 8, 1), written(at, 5, 2, 9)}
	writes, reads, misses := written(at, 5, 2, 70), unwritten(at, 5, 2), unwritten(of.Cell(4), 1, 1)
	for _, who := range []int{1, 2, 3, 10} {
		for _, x := range []struct {
			what    string
			entries []api.Entry
			status  api.Word
			done    bool
			word    api.Word
		}{
			{"open", []api.Entry{writes}, api.Word{Val: open, Ver: 8}, false, after(writes)},
			{"open, and only reads", []api.Entry{reads}, api.Word{Val: open, Ver: 8}, true, after(mine[1])},
			{"open, and fails", []api.Entry{writes, misses}, api.Word{Val: open, Ver: 8}, true, after(mine[1])},
			{"done", []api.Entry{writes}, api.Word{Val: done, Ver: 8}, false, after(writes)},
			{"done, and only read", []api.Entry{reads}, api.Word{Val: done, Ver: 8}, true, after(mine[1])},
			{"failed", []api.Entry{writes}, api.Word{Val: failed, Ver: 8}, true, after(mine[1])},
			{"of a later number", []api.Entry{writes}, api.Word{Val: open, Ver: 9}, true, after(mine[1])},
			{"of an earlier number", []api.Entry{writes}, api.Word{Val: done, Ver: 7}, true, after(mine[1])},
			{"filled again", []api.Entry{writes}, api.Word{Val: filling, Ver: 8}, true, after(mine[1])},
		} {
			for _, durable := range []bool{false, true} {
				o := op(who, 8, open, x.entries...)
				m := scene(of, mine...)
				m.put(t, of, o, 1)
				m.used(t, of, 1)
				owner, _ := of.Place(who)
				m[owner] = x.status
				what := fmt.Sprintf("held by %d, which is %s", who, x.what)
				got := m.run(t, what, of, durable, mine...)
				want(t, what, got.end, outcome{x.done, api.OK, true, 0})
				want(t, what+": the word", m[at], x.word)
				other := mine[0].Old
				if x.done {
					other = after(mine[0])
				}
				want(t, what+": the other word", m[mine[0].At], other)
			}
		}
	}
}

// P23.1, steps 6 and 7: others complete the swap, its block is used again or is free already, in the midst of it.
func TestOvertaken(t *testing.T) {
	entries := list(of, 2, 11)
	at := of.Block(0)
	bitmap, _ := of.Bits(0)
	ends := map[outcome]int{}
	for _, durable := range []bool{false, true} {
		for k := range 60 {
			for _, w := range []api.Word{{Val: done, Ver: 1}, {Val: failed, Ver: 1}, {Val: open, Ver: 1}, {Val: filling, Ver: 2}, {Val: done, Ver: 2}, {Val: done, Ver: 0}, {Val: done, Ver: 1, Ref: 1}} {
				for _, bits := range []int64{0, 1, 2, 3} {
					m, acts := scene(of, entries...), 0
					x := follow(t, fmt.Sprintf("%+v ahead of act %d", w, k), of, durable, entries, 300, func(a api.Act) api.Got {
						if acts == k {
							m[at], m[bitmap].Val = w, bits
						}
						acts++
						return m.answer(a)
					})
					ends[x.end]++
				}
			}
		}
	}
	for _, x := range []outcome{{true, api.OK, true, 0}, {false, api.OK, true, 0}, {false, api.ErrFull, true, 0}} {
		if ends[x] < 10 {
			t.Errorf("%+v has ended %d swaps", x, ends[x])
		}
	}
}

// anyList returns random entries at the first cells, which mostly expect what anyImage leaves there.
func anyList(r *rand.Rand, l layout.Layout) []api.Entry {
	var entries []api.Entry
	for i := range l.Cells {
		if r.Intn(2) == 0 {
			continue
		}
		e := written(l.Cell(i), int64(i), uint32(i), int64(r.Intn(50)))
		if r.Intn(3) == 0 {
			e = unwritten(e.At, e.Old.Val, e.Old.Ver)
		}
		if r.Intn(12) == 0 {
			e.Old.Ver++
		}
		entries = append(entries, e)
	}
	if len(entries) == 0 {
		return []api.Entry{written(l.Cell(0), 0, 0, 1)}
	}
	return entries
}

// anyImage returns a memory with an operation of each owner, and the references of these and of their next numbers. Some
// of the blocks are used.
func anyImage(t *testing.T, r *rand.Rand, l layout.Layout) (image, []uint32) {
	t.Helper()
	m := image(l.First())
	var refs []uint32
	for who := 1; who <= 8+l.Blocks; who++ {
		at, _ := l.Place(who)
		if at < 0 {
			continue
		}
		o := op(who, 1+r.Intn(3), anyStatus(r), anyList(r, l)...)
		if r.Intn(10) == 0 {
			o.Seq = api.MaxSeq - r.Intn(3)
		}
		m.put(t, l, o, 0)
		refs = append(refs, refOf(o), ref(who, min(o.Seq+1, api.MaxSeq)))
	}
	for i := range l.Cells {
		m[l.Cell(i)] = anyCell(r, i, refs)
	}
	if l.Blocks > 1 {
		m.used(t, l, r.Intn(l.Blocks))
	}
	return m, refs
}

func anyStatus(r *rand.Rand) int {
	return []int{open, open, open, done, failed, filling}[r.Intn(6)]
}

func anyCell(r *rand.Rand, i int, refs []uint32) api.Word {
	w := api.Word{Val: int64(i), Ver: uint32(i)}
	switch r.Intn(8) {
	case 0, 1:
		w.Ref = refs[r.Intn(len(refs))]
	case 2:
		w.Ref = []uint32{1, ref(8, 1), ref(72, 1), math.MaxUint32}[r.Intn(4)]
	case 3:
		w.Ver++
	}
	return w
}

// P23.1: random memories that others change all the time, and results that no memory gives.
func TestAnything(t *testing.T) {
	ends := map[outcome]int{}
	for seed := range int64(4000) {
		r := rand.New(rand.NewSource(seed))
		l := layout.Layout{Threads: 1 + r.Intn(3), Cells: 1 + r.Intn(6), Blocks: 1 + r.Intn(3)}
		m, refs := anyImage(t, r, l)
		calm := 4 + r.Intn(60)
		x := follow(t, fmt.Sprintf("seed %d", seed), l, r.Intn(2) == 0, anyList(r, l), 300, func(a api.Act) api.Got {
			if r.Intn(calm) == 0 {
				disturb(r, l, m, refs)
			}
			g := m.answer(a)
			if r.Intn(8*calm) == 0 {
				g = api.Got{Word: api.Word{Val: int64(r.Intn(12)), Ver: uint32(r.Intn(4)), Ref: refs[r.Intn(len(refs))] * uint32(r.Intn(2))}, OK: r.Intn(2) == 0}
			}
			return g
		})
		ends[x.end]++
	}
	for _, x := range []outcome{{true, api.OK, true, 0}, {false, api.OK, true, 0}, {false, api.ErrFull, true, 0}} {
		if ends[x] < 100 {
			t.Errorf("%+v has ended %d swaps", x, ends[x])
		}
	}
}

// disturb changes a word of a memory.
func disturb(r *rand.Rand, l layout.Layout, m image, refs []uint32) {
	at, _ := l.Place(int(refs[r.Intn(len(refs))] >> 24))
	switch r.Intn(5) {
	case 0:
		m[at] = api.Word{Val: int64(r.Intn(4)), Ver: uint32(1 + r.Intn(4))}
	case 1:
		m[int(at)+1+r.Intn(20)].Val += int64(r.Intn(3)) - 1
	case 2, 3:
		i := r.Intn(l.Cells)
		m[l.Cell(i)] = anyCell(r, i, refs)
	case 4:
		bitmap, _ := l.Bits(0)
		m[bitmap].Val = int64(r.Intn(8))
	}
}

// state is a code on its way, with the result that it was resumed with.
type state struct {
	code task.Code
	got  api.Got
}

// 'Values': each state of a swap continues in the same way however often it is resumed, and whatever it got elsewhere.
func TestCodesAreValues(t *testing.T) {
	for seed := range int64(150) {
		r := rand.New(rand.NewSource(seed))
		l := layout.Layout{Threads: 2, Cells: 5, Blocks: 2}
		m, refs := anyImage(t, r, l)
		var states []state
		var acts []api.Act
		var outcomes []outcome
		s := state{code: newSwap(t, l, seed%2 == 0, anyList(r, l)...)}
		for range 150 {
			states = append(states, s)
			next, act, finished := s.code.Next(s.got)
			acts, outcomes = append(acts, act), append(outcomes, outcomeOf(next))
			if finished {
				break
			}
			s = state{next, m.answer(act)}
		}
		for range 400 {
			c := states[r.Intn(len(states))].code
			for range r.Intn(6) {
				g := states[r.Intn(len(states))].got
				if r.Intn(2) == 0 {
					g.OK = !g.OK
				}
				if r.Intn(2) == 0 {
					g.Word.Ref = refs[r.Intn(len(refs))]
				}
				c, _, _ = c.Next(g)
			}
		}
		// The last state first: going on from an earlier one could repair what the others have done to the later ones.
		for i, s := range slices.Backward(states) {
			next, act, finished := s.code.Next(s.got)
			if act != acts[i] || outcomeOf(next) != outcomes[i] || finished && i < len(states)-1 {
				t.Fatalf("seed %d, state %d: %+v, finished %v, wanted %+v", seed, i, act, finished, acts[i])
			}
			for j := i + 1; j < len(states) && !finished; j++ {
				next, act, finished = next.Next(states[j].got)
				if act != acts[j] || outcomeOf(next) != outcomes[j] {
					t.Fatalf("seed %d, from state %d on: act %d is %+v, wanted %+v", seed, i, j, act, acts[j])
				}
			}
		}
	}
}

// P23.3: alone, a swap has a bounded number of acts, whatever the other threads have left behind: its own ones, and those
// of one help for each open swap, each with an entry in the way that has been left behind.
func TestAloneBound(t *testing.T) {
	for _, blocks := range []int{9, 33, 64} {
		l := layout.Layout{Threads: 1, Cells: 10, Blocks: blocks}
		for left := range 9 {
			for n := 1; n <= 10; n++ {
				entries := make([]api.Entry, l.Cells)
				for i := range entries {
					entries[i] = written(l.Cell(i), int64(i), 0, 50)
				}
				m := scene(l, entries...)
				entries = entries[:n]
				var numbers []int
				for k := range left {
					o := op(9+k, 1, open, written(l.Cell(k), int64(k), 0, 60), written(l.Cell(k+1), int64(k+1), 0, 60))
					m.put(t, l, o, 1)
					numbers = append(numbers, k)
				}
				m.used(t, l, numbers...)
				bound := 2*2 + 40 + 14*n + left*60
				x := m.run(t, "alone", l, false, entries...)
				if len(x.acts) > bound {
					t.Errorf("%d entries, %d open swaps: %d acts, wanted at most %d", n, left, len(x.acts), bound)
				}
				// Of the open swaps every second one is done, the last one among them.
				want(t, "done", x.end.done, left == 0 || n == 1 && left%2 == 0)
				want(t, "Who behind the Take", x.who[2], 9+left)
			}
		}
	}
}
