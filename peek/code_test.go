package peek_test

import (
	"fmt"
	"math"
	"math/rand"
	"slices"
	"testing"

	"simulcast/api"
	"simulcast/arena"
	"simulcast/atom"
	"simulcast/help"
	"simulcast/layout"
	"simulcast/peek"
	"simulcast/swap"
	"simulcast/task"
)

// P22.1: the acts and the rounds where nobody holds anything, for every number of addresses, in any order.
func TestActs(t *testing.T) {
	r := rand.New(rand.NewSource(1))
	all := places(wide)
	for n := 1; n <= 256; n++ {
		m := scene(wide)
		at := make([]api.Loc, n)
		var wanted []api.Word
		var looks, flushes []api.Act
		for i, k := range r.Perm(len(all))[:n] {
			at[i] = all[k]
			m[at[i]] = api.Word{Val: r.Int63() - r.Int63(), Ver: r.Uint32()}
			wanted = append(wanted, m[at[i]])
			looks = append(looks, api.Act{Op: api.Look, At: at[i]})
			flushes = append(flushes, api.Act{Op: api.Flush, At: at[i]})
		}
		flushes = append(flushes, api.Act{Op: api.Sync})
		before := slices.Clone(m)
		for k := range 4 {
			durable, together := k%2 == 1, k > 1
			x := m.run(t, "nobody holds anything", wide, durable, together, at...)
			acts, rounds := looks, 1
			if together {
				acts, rounds = slices.Concat(acts, looks), 2
			}
			if durable {
				acts = slices.Concat(acts, flushes)
			}
			if !slices.Equal(x.acts, acts) || !slices.Equal(x.words, wanted) || x.rounds != rounds {
				t.Fatalf("%d addresses, durable %v, together %v: the acts are %+v, the words %v", n, durable, together, x.acts, x.words)
			}
			m.expect(t, "nothing is written", before)
		}
	}
}

// helped lets a help run on a memory, and returns how many acts it has.
func helped(t *testing.T, l layout.Layout, ref uint32, durable bool, m image) int {
	t.Helper()
	c, e := help.New(l, ref, durable)
	if e != api.OK {
		t.Fatal("help.New:", e)
	}
	c, act, finished := c.Next(api.Got{})
	n := 0
	for ; !finished; n++ {
		c, act, finished = c.Next(m.answer(act))
	}
	return n
}

// P22.1: words that an operation holds, by what has become of it.
func TestHeld(t *testing.T) {
	a, b := of.Cell(3), of.Cell(30)
	entries := []api.Entry{written(a, 5, 2, 70), unwritten(b, 6, 0)}
	for _, who := range []int{1, 2, 3, 9, 10} {
		for _, x := range []struct {
			what   string
			status api.Word
			fails  bool
			a      api.Word
			stale  bool
		}{
			{"open", api.Word{Val: open, Ver: 8}, false, api.Word{Val: 70, Ver: 3}, false},
			{"open, and fails", api.Word{Val: open, Ver: 8}, true, api.Word{Val: 5, Ver: 2}, false},
			{"done", api.Word{Val: done, Ver: 8}, false, api.Word{Val: 70, Ver: 3}, false},
			{"failed", api.Word{Val: failed, Ver: 8}, false, api.Word{Val: 5, Ver: 2}, false},
			{"filled", api.Word{Val: filling, Ver: 8}, false, api.Word{Val: 5, Ver: 2}, true},
			{"of a later number", api.Word{Val: open, Ver: 9}, false, api.Word{Val: 5, Ver: 2}, true},
			{"of an earlier number", api.Word{Val: done, Ver: 7}, false, api.Word{Val: 5, Ver: 2}, true},
			{"no status", api.Word{Val: 9, Ver: 8}, false, api.Word{Val: 5, Ver: 2}, true},
		} {
			for k := range 4 {
				durable, together := k%2 == 1, k > 1
				m := scene(of, entries...)
				m.put(t, of, op(who, 8, open, entries...), 2)
				m[placeOf(of, who)] = x.status
				if x.fails {
					m[b] = api.Word{Val: 6, Ver: 1}
				}
				other := slices.Clone(m)
				acts := helped(t, of, ref(who, 8), durable, other)
				what := fmt.Sprintf("held by %d, which is %s, durable %v, together %v", who, x.what, durable, together)
				got := m.run(t, what, of, durable, together, a, b)
				wanted := []api.Word{x.a, {Val: 6, Ver: m[b].Ver}}
				more := 3
				if x.stale {
					more += 1 + 1 + acts + 1 // the other word is held, too
				}
				if together {
					more += 2
				}
				if durable {
					more += 3
				}
				if !slices.Equal(got.words, wanted) || len(got.acts) != acts+more {
					t.Fatalf("%s: %v after %d acts, wanted %v after %d", what, got.words, len(got.acts), wanted, acts+more)
				}
			}
		}
	}
}

// P22.1: a word with a reference of nobody, or of an owner that the layout does not have, is observed as it is.
func TestHeldByNobody(t *testing.T) {
	for _, r := range []uint32{1, api.MaxSeq, ref(1, 0), ref(4, 1), ref(8, 3), ref(11, 1), ref(72, api.MaxSeq), ref(73, 1), math.MaxUint32} {
		for k := range 4 {
			m := scene(of)
			m[60] = api.Word{Val: 5, Ver: 2, Ref: r}
			before := slices.Clone(m)
			x := m.run(t, "held by nobody", of, k%2 == 1, k > 1, 61, 60)
			if !slices.Equal(x.words, []api.Word{{}, before[60]}) || x.rounds != 1+k/2 {
				t.Errorf("reference %x: the words are %v in %d rounds", r, x.words, x.rounds)
			}
			m.expect(t, "nothing is written", before)
		}
	}
}

// P22.1: another thread changes words between two rounds, or in the midst of them, so many times.
func TestRounds(t *testing.T) {
	for _, n := range []int{1, 2, 3, 10} {
		at := places(of)[4 : 4+n]
		for changes := range 6 {
			for behind := range n {
				for which := range n {
					for _, durable := range []bool{false, true} {
						m := scene(of)
						acts := 0
						x := follow(t, "words that change", of, durable, true, at, 500, func(a api.Act) api.Got {
							g := m.answer(a)
							if acts%n == behind && acts < n*changes {
								m[at[which]].Ver++
							}
							acts++
							return g
						})
						// A change in a round is seen in it, or in the next one.
						rounds := 2
						if changes > 0 && which <= behind {
							rounds = changes + 2
						} else if changes > 0 {
							rounds = changes + 1
						}
						if !x.ended || x.rounds != rounds || x.words[which].Ver != uint32(changes) {
							t.Fatalf("%d words, %d changes of %d behind %d: %d rounds, wanted %d; the words are %v", n, changes, which, behind, x.rounds, rounds, x.words)
						}
					}
				}
			}
		}
	}
}

// P22.1: two rounds are the same only if each word has the same Val, Ver and Ref; the last two ones count.
func TestSameWords(t *testing.T) {
	a, b := of.Cell(0), of.Cell(1)
	for _, w := range []api.Word{{Val: 6, Ver: 2}, {Val: 5, Ver: 3}, {Val: 5, Ver: 2, Ref: 1}, {Val: 5 + 1<<32, Ver: 2}} {
		for _, at := range []api.Loc{a, b} {
			for _, back := range []bool{false, true} {
				m := scene(of)
				m[a], m[b] = api.Word{Val: 5, Ver: 2}, api.Word{Val: 5, Ver: 2}
				acts := 0
				x := follow(t, "a word changes, and back", of, false, true, []api.Loc{a, b}, 100, func(act api.Act) api.Got {
					switch {
					case acts == 2:
						m[at] = w
					case acts == 4 && back:
						m[at] = api.Word{Val: 5, Ver: 2}
					}
					acts++
					return m.answer(act)
				})
				want(t, "rounds", x.rounds, map[bool]int{false: 3, true: 4}[back])
			}
		}
	}
}

// anyImage returns a memory with an operation of each owner at the cells, and the references of these operations and of
// their next numbers.
func anyImage(t *testing.T, r *rand.Rand, l layout.Layout) (image, []uint32) {
	t.Helper()
	m := image(l.First())
	var refs []uint32
	for who := 1; who <= 8+l.Blocks; who++ {
		if !owned(l, ref(who, 1)) {
			continue
		}
		o := op(who, 1+r.Intn(3), anyStatus(r))
		for i := range l.Cells {
			e := written(l.Cell(i), int64(i), uint32(i), int64(r.Intn(50)))
			if r.Intn(3) == 0 {
				e = unwritten(e.At, e.Old.Val, e.Old.Ver)
			}
			if r.Intn(2) == 0 {
				o.Entries = append(o.Entries, e)
			}
		}
		if len(o.Entries) == 0 {
			o.Entries = []api.Entry{unwritten(l.Cell(0), 0, 0)}
		}
		m.put(t, l, o, 0)
		refs = append(refs, refOf(o), refOf(o)+1)
	}
	for i := range l.Cells {
		m[l.Cell(i)] = anyCell(r, i, refs)
	}
	return m, refs
}

func anyStatus(r *rand.Rand) int {
	return []int{open, open, open, done, failed, filling}[r.Intn(6)]
}

func anyCell(r *rand.Rand, i int, refs []uint32) api.Word {
	w := api.Word{Val: int64(i), Ver: uint32(i)}
	switch r.Intn(8) {
	case 0, 1, 2:
		w.Ref = refs[r.Intn(len(refs))]
	case 3:
		w.Ref = []uint32{1, ref(8, 1), ref(72, 1), math.MaxUint32}[r.Intn(4)]
	case 4:
		w.Ver++
	}
	return w
}

// anyPlaces returns some of the cells and one location of a record, in any order.
func anyPlaces(r *rand.Rand, l layout.Layout) []api.Loc {
	at := []api.Loc{l.Record(1+r.Intn(l.Threads)) + api.Loc(r.Intn(3))}
	for i := range l.Cells {
		at = append(at, l.Cell(i))
	}
	r.Shuffle(len(at), func(i, j int) { at[i], at[j] = at[j], at[i] })
	return at[:1+r.Intn(len(at))]
}

// P22.1: random memories that others change all the time, and results that no memory gives.
func TestAnything(t *testing.T) {
	rounds := map[int]int{}
	for seed := range int64(4000) {
		r := rand.New(rand.NewSource(seed))
		l := layout.Layout{Threads: 1 + r.Intn(4), Cells: 1 + r.Intn(6), Blocks: r.Intn(3)}
		m, refs := anyImage(t, r, l)
		calm := 4 + r.Intn(60)
		x := follow(t, fmt.Sprintf("seed %d", seed), l, r.Intn(2) == 0, r.Intn(3) > 0, anyPlaces(r, l), 300, func(a api.Act) api.Got {
			if r.Intn(calm) == 0 {
				disturb(r, l, m, refs)
			}
			g := m.answer(a)
			if r.Intn(8*calm) == 0 {
				g = api.Got{Word: api.Word{Val: int64(r.Intn(12)), Ver: uint32(r.Intn(4)), Ref: refs[r.Intn(len(refs))] * uint32(r.Intn(2))}, OK: r.Intn(2) == 0}
			}
			return g
		})
		if x.ended {
			rounds[x.rounds]++
		}
	}
	for n := 1; n <= 4; n++ {
		if rounds[n] < 10 {
			t.Errorf("%d rounds: %d times", n, rounds[n])
		}
	}
}

// disturb changes a word of a memory.
func disturb(r *rand.Rand, l layout.Layout, m image, refs []uint32) {
	at := placeOf(l, int(refs[r.Intn(len(refs))]>>24))
	switch r.Intn(4) {
	case 0:
		m[at] = api.Word{Val: int64(r.Intn(4)), Ver: uint32(1 + r.Intn(4))}
	case 1:
		m[int(at)+1+r.Intn(20)].Val += int64(r.Intn(3)) - 1
	case 2, 3:
		i := r.Intn(l.Cells)
		m[l.Cell(i)] = anyCell(r, i, refs)
	}
}

// other is a code of no layer.
type other struct{ words []api.Word }

func (o *other) Next(api.Got) (task.Code, api.Act, bool) { return o, api.Act{}, true }

// wrapper is a code of no layer with another one inside.
type wrapper struct{ task.Code }

// P22.1: Words and Rounds of no code, and of codes of other packages, finished or not.
func TestOtherCodes(t *testing.T) {
	expectState(t, "no code", nil, nil, false, 0)
	expectState(t, "a code of nobody", &other{[]api.Word{{}}}, nil, false, 0)
	expectState(t, "a code of nobody, nil", (*other)(nil), nil, false, 0)
	expectState(t, "the code of the zero task", task.Task{}.Code(), nil, false, 0)
	add, _ := atom.New(atom.Op{Kind: atom.Add, N: 1})
	take, _ := arena.Take(of, 0)
	one, _ := help.New(of, ref(1, 1), true)
	two, _ := swap.New(of, 1, 1, true, written(60, 0, 0, 1))
	for _, c := range []task.Code{add, take, one, two} {
		w := task.Start(c)
		for !w.Done() {
			expectState(t, "a code of another layer", w.Code(), nil, false, 0)
			w = w.Give(api.Got{OK: true})
		}
		expectState(t, "a code of another layer, finished", w.Code(), nil, false, 0)
	}
	w, _ := world(t, of.First(), newCode(t, of, true, true, 60)).Alone(1, 100)
	end := w.Tasks[0].Code()
	expectState(t, "done", end, []api.Word{{}}, true, 2)
	expectState(t, "inside another", wrapper{end}, nil, false, 0)
	expectState(t, "nothing inside another", wrapper{}, nil, false, 0)
}

// state is a code on its way, with the result that it was resumed with.
type state struct {
	code task.Code
	got  api.Got
}

// view is what a code shows.
type view struct {
	act    api.Act
	words  string
	done   bool
	rounds int
}

func (s state) next() (task.Code, view) {
	c, act, done := s.code.Next(s.got)
	words, ok := peek.Words(c)
	return c, view{act, fmt.Sprint(words, ok), done, peek.Rounds(c)}
}

// 'Values': each state of a code continues in the same way however often it is resumed, and whatever it got elsewhere.
func TestCodesAreValues(t *testing.T) {
	for seed := range int64(200) {
		r := rand.New(rand.NewSource(seed))
		l := layout.Layout{Threads: 3, Cells: 5, Blocks: 1}
		m, refs := anyImage(t, r, l)
		var states []state
		var views []view
		s := state{code: newCode(t, l, seed%2 == 0, seed%3 > 0, anyPlaces(r, l)...)}
		for range 120 {
			states = append(states, s)
			next, v := s.next()
			if views = append(views, v); v.done {
				break
			}
			if r.Intn(10) == 0 {
				m[l.Cell(r.Intn(l.Cells))].Ver++
			}
			s = state{next, m.answer(v.act)}
		}
		for range 400 {
			c := states[r.Intn(len(states))].code
			for range r.Intn(8) {
				g := states[r.Intn(len(states))].got
				if r.Intn(2) == 0 {
					g.Word.Val++
				}
				if r.Intn(4) == 0 {
					g.Word.Ref = refs[r.Intn(len(refs))]
				}
				c, _, _ = c.Next(g)
			}
		}
		// The last state first: going on from an earlier one could repair what the others have done to the later ones.
		for i, s := range slices.Backward(states) {
			next, v := s.next()
			want(t, fmt.Sprintf("seed %d, state %d", seed, i), v, views[i])
			for j := i + 1; j < len(states) && !v.done; j++ {
				next, v = state{next, states[j].got}.next()
				want(t, fmt.Sprintf("seed %d, from state %d on, state %d", seed, i, j), v, views[j])
			}
		}
	}
}
