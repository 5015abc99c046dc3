package atom_test

import (
	"fmt"
	"math"
	"testing"

	"simulcast/api"
	"simulcast/atom"
	"simulcast/machine"
	"simulcast/task"
)

// drive runs a code on one word without other threads and without a machine, and returns the word and the last code.
func drive(c task.Code, w api.Word) (api.Word, task.Code) {
	c, a, finished := c.Next(api.Got{})
	for !finished {
		got := api.Got{Word: w, OK: a.Op == api.Look || a.Old == w}
		if a.Op == api.Swap && a.Old == w {
			w = a.New
		}
		c, a, finished = c.Next(got)
	}
	return w, c
}

func code(t *testing.T, o atom.Op) task.Code {
	t.Helper()
	c, e := atom.New(o)
	if c == nil || e != api.OK {
		t.Fatalf("New(%+v): %v, %d", o, c, e)
	}
	return c
}

// world returns a world with one thread per operation, on these words.
func world(t *testing.T, words []api.Word, l ...atom.Op) task.World {
	t.Helper()
	m, e := machine.New(max(1, len(l)), words...)
	if e != api.OK {
		t.Fatal(e)
	}
	var codes []task.Code
	for _, o := range l {
		codes = append(codes, code(t, o))
	}
	w, e := task.Make(m, codes...)
	if e != api.OK {
		t.Fatal(e)
	}
	return w
}

func expectUnfinished(t *testing.T, what string, c task.Code, tries int) {
	t.Helper()
	if a, ok := atom.Answer(c); a != 0 || ok || atom.Tries(c) != tries {
		t.Errorf("%s: Answer %d, %v, Tries %d, wanted %d", what, a, ok, atom.Tries(c), tries)
	}
}

func expectAnswer(t *testing.T, what string, c task.Code, answer int64, tries int) {
	t.Helper()
	if a, ok := atom.Answer(c); a != answer || !ok || atom.Tries(c) != tries {
		t.Errorf("%s: Answer %d, %v, Tries %d, wanted %d, %d", what, a, ok, atom.Tries(c), answer, tries)
	}
}

// Example 1, on a word with a version and a reference, among other words.
func TestExample(t *testing.T) {
	word := api.Word{Val: 5, Ver: 9, Ref: 1<<24 + 7}
	for _, x := range []struct {
		op           atom.Op
		after, reply int64
	}{
		{atom.Op{Kind: atom.Add, N: 3}, 8, 5}, {atom.Op{Kind: atom.Most, N: 7}, 8, 8}, {atom.Op{Kind: atom.Claim, N: 4}, 8, 8},
		{atom.Op{Kind: atom.Put}, 0, 8}, {atom.Op{Kind: atom.Claim, N: 4}, 4, 0},
	} {
		x.op.At = 1
		w := world(t, []api.Word{{Val: 70}, word, {Val: 71}}, x.op)
		w, ok := w.Alone(1, 4)
		if !ok {
			t.Fatalf("%+v has not finished", x.op)
		}
		changed := 0
		if x.after != word.Val {
			changed = 1
		}
		expectAnswer(t, fmt.Sprintf("%+v", x.op), w.Tasks[0].Code(), x.reply, changed)
		word.Val = x.after
		for at, wanted := range []api.Word{{Val: 70}, word, {Val: 71}} {
			if got, _ := w.M.Word(api.Loc(at)); got != wanted {
				t.Errorf("%+v: location %d is %+v, wanted %+v", x.op, at, got, wanted)
			}
		}
	}
}

// P10.2: the acts of a code, one by one, with swaps that fail; words keep Ver and Ref.
func TestActs(t *testing.T) {
	at := api.Loc(api.MaxLocs - 1)
	c := code(t, atom.Op{Kind: atom.Add, At: at, N: 10})
	expectUnfinished(t, "fresh", c, 0)
	c, a, finished := c.Next(api.Got{})
	if a != (api.Act{Op: api.Look, At: at}) || finished {
		t.Fatalf("first act %+v, %v", a, finished)
	}
	expectUnfinished(t, "looking", c, 0)
	tries := 0
	for _, w := range []api.Word{{Val: 5, Ver: 3}, {Val: 5, Ver: 4}, {Val: 5, Ver: 4, Ref: 7}, {Val: math.MaxInt64, Ref: 1<<24 + 1}, {}, {Val: -10, Ver: api.MaxVer}} {
		c, a, finished = c.Next(api.Got{Word: w, OK: tries == 0})
		wanted := api.Act{Op: api.Swap, At: at, Old: w, New: api.Word{Val: wrapped(w.Val, 10), Ver: w.Ver, Ref: w.Ref}}
		if a != wanted || finished {
			t.Fatalf("after %+v: %+v, %v, wanted %+v", w, a, finished, wanted)
		}
		expectUnfinished(t, "swapping", c, tries)
		tries++
	}
	last, _, finished := c.Next(api.Got{Word: a.Old, OK: true})
	if !finished {
		t.Fatal("a successful swap is not the last act")
	}
	expectAnswer(t, "finished", last, -10, tries)
	for range 3 {
		next, a, finished := last.Next(api.Got{Word: api.Word{Val: 77}, OK: true})
		if next != last || a != (api.Act{}) || !finished {
			t.Errorf("behind the end: %+v, %+v, %v", next, a, finished)
		}
	}
}

// P10.2: an operation that changes nothing may end behind any act, with the value that this act returned.
func TestNothingToChange(t *testing.T) {
	for _, x := range []struct {
		op           atom.Op
		first, later int64
	}{
		{atom.Op{Kind: atom.Most, N: 7}, 3, 7}, {atom.Op{Kind: atom.Most, N: 7}, -1, 9}, {atom.Op{Kind: atom.Put, N: 7}, 0, 7},
		{atom.Op{Kind: atom.Claim, N: 7}, 0, 7}, {atom.Op{Kind: atom.Claim, N: 7}, 0, -2},
	} {
		what := fmt.Sprintf("%+v", x.op)
		w := world(t, []api.Word{{Val: x.first, Ver: 2}}, x.op, atom.Op{Kind: atom.Put, N: x.later})
		w = w.Run(api.Pick{Thread: 1})
		w, _ = w.Alone(2, 4)
		expectAnswer(t, what+": the other", w.Tasks[1].Code(), x.first, 1)
		w, ok := w.Alone(1, 4)
		if got, _ := w.M.Word(0); !ok || got != (api.Word{Val: x.later, Ver: 2}) {
			t.Errorf("%s: %v, the word is %+v", what, ok, got)
		}
		if a, ok := atom.Answer(w.Tasks[0].Code()); a != x.later || !ok {
			t.Errorf("%s: Answer %d, %v", what, a, ok)
		}
	}
	for _, o := range []atom.Op{{Kind: atom.Add}, {Kind: atom.Most, N: -3}, {Kind: atom.Most, N: 6}, {Kind: atom.Put, N: 6}, {Kind: atom.Claim, N: 5}, {Kind: atom.Claim, N: 6}} {
		w, ok := world(t, []api.Word{{Val: 6, Ver: 1, Ref: 5}}, o).Alone(1, 4)
		if got, _ := w.M.Word(0); !ok || got != (api.Word{Val: 6, Ver: 1, Ref: 5}) {
			t.Errorf("%+v: %v, the word is %+v", o, ok, got)
		}
		if a, ok := atom.Answer(w.Tasks[0].Code()); a != 6 || !ok {
			t.Errorf("%+v: Answer %d, %v", o, a, ok)
		}
	}
}

// Values: each state of a code continues in the same way however often it is asked, and asking it leaves it as it is.
func TestCodesAreValues(t *testing.T) {
	c := code(t, atom.Op{Kind: atom.Add, At: 2, N: 3})
	gots := []api.Got{{}, {Word: api.Word{Val: 4, Ver: 1}, OK: true}, {Word: api.Word{Val: 5, Ver: 1}}, {Word: api.Word{Val: 5, Ver: 1}, OK: true}}
	for i, g := range gots {
		before := fmt.Sprintf("%+v", c)
		next, a, finished := c.Next(g)
		text := fmt.Sprintf("%+v", next)
		for _, other := range gots {
			c.Next(other)
		}
		again, b, f := c.Next(g)
		if again != next || a != b || finished != f || finished != (i == 3) {
			t.Errorf("call %d again: %+v, %+v, %v, at first %+v, %+v, %v", i, again, b, f, next, a, finished)
		}
		if fmt.Sprintf("%+v", c) != before || fmt.Sprintf("%+v", next) != text {
			t.Errorf("call %d has changed a code", i)
		}
		c = next
	}
	expectAnswer(t, "finished", c, 5, 2)
}

// P10.2: a location that the machine does not have: nothing changes, and the code ends.
func TestNoSuchLocation(t *testing.T) {
	for kind := atom.Add; kind <= atom.Claim; kind++ {
		for _, at := range []api.Loc{2, 7, api.MaxLocs - 1} {
			w := world(t, []api.Word{{Val: 1}, {Val: 2}}, atom.Op{Kind: kind, At: at, N: 5})
			n, ok := w.Alone(1, 4)
			if !ok || fmt.Sprintf("%+v", n.M) != fmt.Sprintf("%+v", w.M) {
				t.Errorf("kind %d at %d: finished %v, machine %+v", kind, at, ok, n.M)
			}
			atom.Answer(n.Tasks[0].Code())
			if tries := atom.Tries(n.Tasks[0].Code()); tries != 0 {
				t.Errorf("kind %d at %d: Tries %d", kind, at, tries)
			}
		}
	}
}

// P10.3: whoever disturbs a code makes it try anew, but no more often than it is disturbed; alone it ends at once.
func TestDisturbedAgainAndAgain(t *testing.T) {
	const most = 200
	w := world(t, []api.Word{{Val: 1, Ver: 6}}, atom.Op{Kind: atom.Add, N: 1000})
	m, _ := machine.New(2, api.Word{Val: 1, Ver: 6})
	w.M = m
	w = w.Run(api.Pick{Thread: 1})
	for i := range most {
		// Each round changes another field of the word.
		word, _ := w.M.Word(0)
		switch i % 3 {
		case 0:
			word.Val++
		case 1:
			word.Ver++
		case 2:
			word.Ref++
		}
		w.M, _, _ = w.M.Do(2, api.Act{Op: api.Store, New: word}, 0)
		alone, ok := w.Alone(1, 4)
		word.Val += 1000
		if got, _ := alone.M.Word(0); !ok || got != word {
			t.Fatalf("after %d changes: %v, %+v, wanted %+v", i+1, ok, got, word)
		}
		expectAnswer(t, "alone", alone.Tasks[0].Code(), word.Val-1000, i+2)
		w = w.Run(api.Pick{Thread: 1})
		expectUnfinished(t, "disturbed", w.Tasks[0].Code(), i+1)
	}
	// A word that comes back to what it was does not make a swap fail.
	word, _ := w.M.Word(0)
	other := word
	other.Val++
	w.M, _, _ = w.M.Do(2, api.Act{Op: api.Store, New: other}, 0)
	w.M, _, _ = w.M.Do(2, api.Act{Op: api.Store, New: word}, 0)
	w = w.Run(api.Pick{Thread: 1})
	expectAnswer(t, "came back", w.Tasks[0].Code(), word.Val, most+1)
}
