package era_test

import (
	"fmt"
	"math"
	"math/rand"
	"slices"
	"testing"

	"simulcast/api"
	"simulcast/era"
	"simulcast/layout"
	"simulcast/machine"
	"simulcast/task"
)

// Locations of the layouts, by the chapter of layout.
const eraAt = 1

func announceAt(thread int) api.Loc { return api.Loc(8 * thread) }

func look() api.Act { return api.Act{Op: api.Look, At: eraAt} }

func announcing(thread int, v int64) api.Act {
	return api.Act{Op: api.Release, At: announceAt(thread), New: api.Word{Val: v}}
}

func swapping(old api.Word, v int64) api.Act {
	return api.Act{Op: api.Swap, At: eraAt, Old: old, New: api.Word{Val: v}}
}

// script is what a code is to do with the results that it is given: an act before each of them, and then an act more, or
// the end with an era.
type script struct {
	acts []api.Act
	done bool
	era  int64
}

// enterScript follows the chapter's definition of Enter.
func enterScript(thread int, gots []api.Got) script {
	s := script{acts: []api.Act{look()}}
	if len(gots) == 0 {
		return s
	}
	read := gots[0].Word.Val
	for i := 1; ; i += 2 {
		s.acts = append(s.acts, announcing(thread, read))
		if i >= len(gots) {
			return s
		}
		s.acts = append(s.acts, look())
		if i+1 >= len(gots) {
			return s
		}
		if gots[i+1].Word.Val == read {
			s.done, s.era = true, read
			return s
		}
		read = gots[i+1].Word.Val
	}
}

// leaveScript follows the chapter's definition of Leave.
func leaveScript(thread int, gots []api.Got) script {
	return script{acts: []api.Act{announcing(thread, 0)}, done: len(gots) > 0}
}

// advanceScript follows the chapter's definition of Advance.
func advanceScript(gots []api.Got) script {
	s := script{acts: []api.Act{look()}}
	for i, g := range gots {
		if i > 0 && g.OK {
			s.done, s.era = true, int64(uint64(gots[i-1].Word.Val)+1)
			return s
		}
		s.acts = append(s.acts, swapping(g.Word, int64(uint64(g.Word.Val)+1)))
	}
	return s
}

// expectScript gives a code the results one after another, and checks its acts and how it ends.
func expectScript(t *testing.T, what string, c task.Code, gots []api.Got, s script) {
	t.Helper()
	what = fmt.Sprintf("%s, %v", what, gots)
	for i, wanted := range s.acts {
		expectNotDone(t, what, c)
		g := api.Got{}
		if i > 0 {
			g = gots[i-1]
		}
		next, act, finished := c.Next(g)
		if finished || act != wanted {
			t.Fatalf("%s: act %d is %+v, finished %v, wanted %+v", what, i, act, finished, wanted)
		}
		c = next
	}
	expectNotDone(t, what, c)
	if !s.done {
		return
	}
	last, _, finished := c.Next(gots[len(s.acts)-1])
	if !finished {
		t.Fatalf("%s: not done after %d acts", what, len(s.acts))
	}
	for range 3 {
		expectEra(t, what, last, s.era)
		last, _, finished = last.Next(api.Got{Word: api.Word{Val: 99}, OK: true})
		if !finished {
			t.Fatalf("%s: goes on behind its end", what)
		}
	}
	expectEra(t, what, last, s.era)
}

func found(v int64) api.Got { return api.Got{Word: api.Word{Val: v}, OK: true} }

var stored = api.Got{OK: true}

// P13.1: the acts of Enter with an era that stays, changes once and several times, with what no machine returns, and the
// era that it announced.
func TestEnterActs(t *testing.T) {
	l := layout.Layout{Threads: 3, Cells: 8}
	odd := func(v int64, ver, ref uint32) api.Got {
		return api.Got{Word: api.Word{Val: v, Ver: ver, Ref: ref}, OK: true}
	}
	for what, gots := range map[string][]api.Got{
		"nothing yet":           nil,
		"looked":                {found(1)},
		"announced":             {found(1), stored},
		"stays":                 {found(1), stored, found(1)},
		"changes once":          {found(1), stored, found(2), stored, found(2)},
		"changes several times": {found(1), stored, found(2), stored, found(4), stored, found(3), stored, found(9), stored, found(9)},
		"returns":               {found(1), stored, found(2), stored, found(1), stored, found(1)},
		"changes for ever":      {found(1), stored, found(2), stored, found(1), stored, found(2), stored, found(1), stored},
		"era 0":                 {found(0), stored, found(0)},
		"greatest and least":    {found(math.MaxInt64), stored, found(math.MinInt64), stored, found(math.MinInt64)},
		"only Ver changes":      {odd(5, 1, 0), stored, odd(5, 2, 0)},
		"only Ref changes":      {odd(5, 1, 7), stored, odd(5, 1, 8)},
		"Ver and Ref":           {odd(5, 1, 7), stored, odd(6, 1, 7), stored, odd(6, 3, 9)},
		"rejected":              {{}, {}, {}},
		"rejected at first":     {{}, {}, found(1), {}, found(1)},
		"not OK":                {{Word: api.Word{Val: 4}}, {}, {Word: api.Word{Val: 5}}, {}, {Word: api.Word{Val: 5}}},
		"a store that reads":    {found(3), found(8), found(3)},
		"a store that reads 2":  {found(3), found(8), found(8), found(3), found(3), found(9), found(3)},
	} {
		for thread := 1; thread <= 3; thread++ {
			expectScript(t, what, enter(t, l, thread), gots, enterScript(thread, gots))
		}
	}
}

// P13.1: the act of Leave, whatever it returns.
func TestLeaveActs(t *testing.T) {
	l := layout.Layout{Threads: 8, Cells: 8}
	for thread := 1; thread <= 8; thread++ {
		for _, gots := range [][]api.Got{nil, {stored}, {{}}, {found(5)}, {{Word: api.Word{Val: -1, Ver: 2, Ref: 3}}}} {
			expectScript(t, "Leave", leave(t, l, thread), gots, leaveScript(thread, gots))
		}
	}
}

// P13.1: the acts of Advance: a Swap that fails goes on with the word it returned, the greatest era wraps around.
func TestAdvanceActs(t *testing.T) {
	word := func(v int64, ver, ref uint32, ok bool) api.Got {
		return api.Got{Word: api.Word{Val: v, Ver: ver, Ref: ref}, OK: ok}
	}
	for what, gots := range map[string][]api.Got{
		"nothing yet":      nil,
		"looked":           {found(1)},
		"succeeds":         {found(1), found(1)},
		"fails once":       {found(1), word(2, 0, 0, false), found(2)},
		"fails for ever":   {found(1), word(2, 0, 0, false), word(5, 0, 0, false), word(4, 0, 0, false), word(6, 0, 0, false)},
		"fails and ends":   {found(1), word(2, 0, 0, false), word(5, 0, 0, false), word(4, 0, 0, false), found(4)},
		"the same word":    {found(1), word(1, 0, 0, false), word(1, 0, 0, false), found(1)},
		"Ver and Ref":      {word(7, 3, 9, true), word(8, 4, 5, false), word(8, 4, 5, true)},
		"only Ver":         {word(7, 3, 0, true), word(7, 4, 0, false), word(7, 4, 0, true)},
		"greatest":         {found(math.MaxInt64), found(math.MaxInt64)},
		"greatest, again":  {found(1), word(math.MaxInt64, 1, 1, false), word(math.MinInt64, 0, 0, false), found(math.MinInt64)},
		"least":            {found(math.MinInt64), found(math.MinInt64)},
		"to 0":             {found(-1), found(-1)},
		"from 0":           {found(0), found(0)},
		"rejected":         {{}, {}, {}, {}},
		"not OK":           {word(5, 0, 0, false), word(5, 0, 0, true)},
		"another word, OK": {found(1), word(77, 7, 7, true)},
	} {
		for _, l := range layouts {
			expectScript(t, what, advance(t, l), gots, advanceScript(gots))
		}
	}
	c := task.Start(advance(t, layouts[0])).Give(found(math.MaxInt64)).Give(found(math.MaxInt64)).Code()
	expectEra(t, "the greatest era", c, math.MinInt64)
}

// P13.1: random results of every kind.
func TestRandomResults(t *testing.T) {
	r := rand.New(rand.NewSource(1))
	for range 3000 {
		var gots []api.Got
		for range r.Intn(12) {
			g := api.Got{Word: api.Word{Val: int64(r.Intn(3)) - 1, Ver: uint32(r.Intn(2)), Ref: uint32(r.Intn(2))}, OK: r.Intn(3) == 0}
			if r.Intn(4) == 0 {
				g.Word.Val = int64(r.Uint64())
			}
			gots = append(gots, g)
		}
		l := layouts[r.Intn(len(layouts))]
		thread := 1 + r.Intn(l.Threads)
		expectScript(t, "Enter", enter(t, l, thread), gots, enterScript(thread, gots))
		expectScript(t, "Leave", leave(t, l, thread), gots, leaveScript(thread, gots))
		expectScript(t, "Advance", advance(t, l), gots, advanceScript(gots))
	}
}

// 'Values': each state of a code continues in the same way however often it is resumed, and whatever it got elsewhere.
func TestCodesAreValues(t *testing.T) {
	l := layout.Layout{Threads: 2, Cells: 8}
	some := []api.Got{{}, found(1), found(2), {Word: api.Word{Val: 3, Ver: 4, Ref: 5}}, {Word: api.Word{Val: 1}}}
	var walk func(what string, c task.Code, depth int)
	walk = func(what string, c task.Code, depth int) {
		before, known := era.Era(c)
		for _, g := range some {
			next, act, finished := c.Next(g)
			for _, elsewhere := range some {
				x, _, _ := c.Next(elsewhere)
				x.Next(g)
			}
			again, act2, finished2 := c.Next(g)
			n, ok := era.Era(next)
			n2, ok2 := era.Era(again)
			if act != act2 || finished != finished2 || n != n2 || ok != ok2 || ok != finished {
				t.Fatalf("%s: %+v, %v, Era %d, %v; again %+v, %v, %d, %v", what, act, finished, n, ok, act2, finished2, n2, ok2)
			}
			if finished && depth > 0 {
				walk(what, next, 0)
			} else if depth > 0 {
				walk(what, again, depth-1)
			}
		}
		if after, ok := era.Era(c); after != before || ok != known {
			t.Fatalf("%s: Era was %d, %v, is %d, %v", what, before, known, after, ok)
		}
	}
	walk("Enter", enter(t, l, 2), 5)
	walk("Leave", leave(t, l, 2), 2)
	walk("Advance", advance(t, l), 4)
}

// run lets a code run alone on a memory image, and returns its task and the memory behind it.
func run(t *testing.T, w []api.Word, c task.Code, most int) (task.Task, []api.Word) {
	t.Helper()
	m, e := machine.New(1, w...)
	if e != api.OK {
		t.Fatal("New:", e)
	}
	x, _ := task.Make(m, c)
	x, ok := x.Alone(1, most)
	if !ok {
		t.Fatalf("not done alone after %d steps", most)
	}
	return x.Tasks[0], x.M.Words()
}

// P13.1: each code alone on images with random words: one word changes, and it has Ver 0 and Ref 0 whatever was there.
func TestAlone(t *testing.T) {
	r := rand.New(rand.NewSource(2))
	for _, l := range layouts {
		for thread := 1; thread <= l.Threads; thread++ {
			w := image(r, l.Size())
			expectOne := func(what string, x task.Task, after []api.Word, steps int, at api.Loc, v int64) {
				t.Helper()
				wanted := slices.Clone(w)
				wanted[at] = api.Word{Val: v}
				if !slices.Equal(after, wanted) || x.Steps() != steps {
					t.Errorf("%+v, %s of thread %d: %d steps, location %d is %+v", l, what, thread, x.Steps(), at, after[at])
				}
				expectEra(t, what, x.Code(), v)
			}
			x, after := run(t, w, enter(t, l, thread), 3)
			expectOne("Enter", x, after, 3, announceAt(thread), w[eraAt].Val)
			x, after = run(t, w, leave(t, l, thread), 1)
			expectOne("Leave", x, after, 1, announceAt(thread), 0)
			x, after = run(t, w, advance(t, l), 2)
			expectOne("Advance", x, after, 2, eraAt, w[eraAt].Val+1)
		}
	}
}

// A machine without the words of the layout: nothing changes, and Enter and Leave end.
func TestNoSuchLocation(t *testing.T) {
	l := layout.Layout{Threads: 2, Cells: 1}
	x, after := run(t, l.First()[:1], enter(t, l, 2), 3)
	expectEra(t, "Enter", x.Code(), 0)
	if !slices.Equal(after, l.First()[:1]) {
		t.Error("Enter has changed the memory")
	}
	x, after = run(t, l.First()[:9], leave(t, l, 2), 1)
	expectEra(t, "Leave", x.Code(), 0)
	if !slices.Equal(after, l.First()[:9]) {
		t.Error("Leave has changed the memory")
	}
}
