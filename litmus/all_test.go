package litmus_test

import (
	"fmt"
	"maps"
	"math/rand"
	"slices"
	"strings"
	"testing"

	"simulcast/api"
	"simulcast/litmus"
	"simulcast/word"
)

// anyTest returns a random valid test whose operations are among ops.
func anyTest(r *rand.Rand, ops []int, most int) litmus.Test {
	x := litmus.Test{Threads: make([][]api.Act, 1+r.Intn(4))}
	for range 1 + r.Intn(2) {
		x.First = append(x.First, val(r.Int63n(2)))
	}
	for i := range r.Intn(most + 1) {
		a := api.Act{Op: ops[r.Intn(len(ops))], At: api.Loc(r.Intn(len(x.First))), Old: val(r.Int63n(2)), New: val(int64(i + 2))}
		k := r.Intn(len(x.Threads))
		x.Threads[k] = append(x.Threads[k], a)
	}
	return x
}

func acts(x litmus.Test) int {
	n := 0
	for _, l := range x.Threads {
		n += len(l)
	}
	return n
}

func everyOp() []int {
	var ops []int
	for op := api.Rest; op <= api.Sync; op++ {
		ops = append(ops, op)
	}
	return ops
}

// byPicks collects the outcomes of all schedules of steps that are long enough for the test, with all choices that can
// differ: it knows only Outcome.
func byPicks(t *testing.T, x litmus.Test) []string {
	t.Helper()
	found := map[string]bool{}
	left := make([]int, len(x.Threads))
	for i, l := range x.Threads {
		left[i] = len(l)
	}
	var try func(picks []api.Pick)
	try = func(picks []api.Pick) {
		found[outcome(t, x, picks...)] = true
		for i := range left {
			if left[i] == 0 {
				continue
			}
			left[i]--
			for choice := range acts(x) {
				try(append(slices.Clip(picks), step(i+1, choice)))
			}
			left[i]++
		}
	}
	try(nil)
	return slices.Sorted(maps.Keys(found))
}

// P9.2: All against the outcomes of all schedules, and against random ones for greater tests.
func TestAllIsWhatPicksProduce(t *testing.T) {
	for seed := range int64(300) {
		x := anyTest(rand.New(rand.NewSource(seed)), everyOp(), 3)
		if got, wanted := all(t, x), byPicks(t, x); !slices.Equal(got, wanted) {
			t.Fatalf("seed %d: All of %+v: %q, wanted %q", seed, x, got, wanted)
		}
	}
	for seed := range int64(100) {
		r := rand.New(rand.NewSource(seed))
		x := anyTest(r, everyOp(), 6)
		l := all(t, x)
		for range 100 {
			var picks []api.Pick
			for range r.Intn(12) {
				picks = append(picks, step(r.Intn(6), r.Intn(9)-1))
			}
			if s := outcome(t, x, picks...); !slices.Contains(l, s) {
				t.Fatalf("seed %d: %q of %v is not in All of %+v", seed, s, picks, x)
			}
		}
	}
}

// P9.2: ascending, each outcome once.
func TestAllIsSorted(t *testing.T) {
	var tests []litmus.Test
	for _, s := range litmus.Names() {
		tests = append(tests, name(t, s))
	}
	for seed := range int64(100) {
		tests = append(tests, anyTest(rand.New(rand.NewSource(seed)), everyOp(), 6))
	}
	for _, x := range tests {
		l := all(t, x)
		for i := range len(l) - 1 {
			if l[i] >= l[i+1] {
				t.Errorf("%q is before %q", l[i], l[i+1])
			}
		}
	}
	ten := litmus.Test{First: []api.Word{val(-1)}, Threads: threads([]api.Act{write(api.Store, 0, 2), write(api.Store, 0, 10)}, []api.Act{act(api.Load, 0)})}
	if l := all(t, ten); !slices.Equal(l, []string{"- | -1 : 10", "- | 10 : 10", "- | 2 : 10"}) {
		t.Errorf("outcomes in the order of their texts: %q", l)
	}
}

// P9.2: a test without acts, with acts that return nothing, and the deepest choice of a load.
func TestAllAtTheEdges(t *testing.T) {
	deep := []api.Act{write(api.Store, 0, 1), write(api.Release, 0, 2), write(api.Store, 0, 3), write(api.Release, 0, 4), write(api.Store, 0, 5)}
	for _, x := range []struct {
		test   litmus.Test
		wanted []string
	}{
		{litmus.Test{First: words(1), Threads: threads(nil)}, []string{"- : 0"}},
		{litmus.Test{First: words(2), Threads: threads(nil, rests(0), nil)}, []string{"- | - | - : 0 0"}},
		{litmus.Test{First: words(1), Threads: threads(rests(3), []api.Act{act(api.Sync, -1), act(api.Flush, 0)})}, []string{"- | - : 0"}},
		{litmus.Test{First: words(1), Threads: threads([]api.Act{write(api.Store, 0, 1)}, []api.Act{write(api.Store, 0, 2)})}, []string{"- | - : 1", "- | - : 2"}},
		{litmus.Test{First: words(1), Threads: threads(deep, []api.Act{act(api.Load, 0)})},
			[]string{"- | 0 : 5", "- | 1 : 5", "- | 2 : 5", "- | 3 : 5", "- | 4 : 5", "- | 5 : 5"}},
		{litmus.Test{First: words(1), Threads: threads(append(slices.Clone(deep), act(api.Load, 0)))}, []string{"5 : 5"}},
		{litmus.Test{First: words(1), Threads: threads([]api.Act{swap(0, 0, 1), swap(0, 0, 2), swap(0, 1, 2)}, []api.Act{act(api.Acquire, 0)})},
			[]string{"0 1 1 | 0 : 2", "0 1 1 | 1 : 2", "0 1 1 | 2 : 2"}},
		{litmus.Test{First: words(4), Threads: threads([]api.Act{act(api.Load, 3), act(api.Load, 3)}, []api.Act{act(api.Load, 3), act(api.Load, 3)}, []api.Act{act(api.Load, 3)}, []api.Act{write(api.Store, 3, 1)})}, nil},
	} {
		l := all(t, x.test)
		if x.wanted != nil && !slices.Equal(l, x.wanted) {
			t.Errorf("%q, wanted %q", l, x.wanted)
		}
		if x.wanted == nil && len(l) != 3*3*2 { // two loads of 0 and 1 in order, twice, and one more
			t.Errorf("%d outcomes, wanted 18: %q", len(l), l)
		}
	}
}

// sequential collects the outcomes of a memory that has one word per address and no views.
func sequential(x litmus.Test) []string {
	found := map[string]bool{}
	left := slices.Clone(x.Threads)
	read := make([][]string, len(left))
	var try func(memory []api.Word)
	try = func(memory []api.Word) {
		ended := true
		for i := range left {
			if len(left[i]) == 0 {
				continue
			}
			ended = false
			acts, before, next := left[i], read[i], slices.Clone(memory)
			a := acts[0]
			if a.Op == api.Look || a.Op == api.Swap {
				read[i] = append(slices.Clip(before), word.Text(memory[a.At]))
			}
			if a.Op == api.Store || a.Op == api.Release || a.Op == api.Swap && memory[a.At] == a.Old {
				next[a.At] = a.New
			}
			left[i] = acts[1:]
			try(next)
			left[i], read[i] = acts, before
		}
		if ended {
			found[told(read, memory)] = true
		}
	}
	try(x.First)
	return slices.Sorted(maps.Keys(found))
}

func told(read [][]string, memory []api.Word) string {
	s := ""
	for i, l := range read {
		if i > 0 {
			s += " | "
		}
		if len(l) == 0 {
			s += "-"
		}
		s += strings.Join(l, " ")
	}
	s += " :"
	for _, w := range memory {
		s += " " + word.Text(w)
	}
	return s
}

// P9.4: tests of stores, looks and swaps have the outcomes of a sequentially consistent memory, and no others.
func TestSequentialConsistency(t *testing.T) {
	for seed := range int64(300) {
		x := anyTest(rand.New(rand.NewSource(seed)), []int{api.Store, api.Release, api.Look, api.Look, api.Swap}, 6)
		if got, wanted := all(t, x), sequential(x); !slices.Equal(got, wanted) {
			t.Fatalf("seed %d: All of %+v: %q, wanted %q", seed, x, got, wanted)
		}
	}
}

// P9.4: a stronger act adds no outcome.
func TestStrengthening(t *testing.T) {
	stronger := map[int][]int{api.Load: {api.Acquire, api.Look}, api.Acquire: {api.Look}, api.Store: {api.Release}}
	less := 0
	for seed := range int64(120) {
		ops := []int{api.Load, api.Load, api.Acquire, api.Acquire, api.Store, api.Store, api.Release, api.Look, api.Swap}
		x := anyTest(rand.New(rand.NewSource(seed)), ops, 6)
		before := all(t, x)
		for _, l := range x.Threads {
			for k, a := range l {
				for _, op := range stronger[a.Op] {
					l[k].Op = op
					after := all(t, x)
					for _, s := range after {
						if !slices.Contains(before, s) {
							t.Fatalf("seed %d: %q is new after %d became %d: %+v", seed, s, a.Op, op, x)
						}
					}
					if len(after) < len(before) {
						less++
					}
				}
				l[k] = a
			}
		}
	}
	if less == 0 {
		t.Error("no stronger act has taken an outcome away")
	}
}

// pairs returns the outcomes "first | a b | c d : 1 1" for all values 0 and 1.
func pairs(first string) []string {
	var l []string
	for i := range 16 {
		l = append(l, fmt.Sprintf("%s%d %d | %d %d : 1 1", first, i>>3&1, i>>2&1, i>>1&1, i&1))
	}
	return l
}

// P9.3, P9.4: the outcomes of the predefined tests.
func TestPredefinedOutcomes(t *testing.T) {
	far := pairs("- | - | ")
	for s, wanted := range map[string][]string{
		"store-buffering":  {"0 | 0 : 1 1", "0 | 1 : 1 1", "1 | 0 : 1 1", "1 | 1 : 1 1"},
		"store-looking":    {"0 | 1 : 1 1", "1 | 0 : 1 1", "1 | 1 : 1 1"},
		"message-plain":    {"- | 0 0 : 1 1", "- | 0 1 : 1 1", "- | 1 0 : 1 1", "- | 1 1 : 1 1"},
		"message-passed":   {"- | 0 0 : 1 1", "- | 0 1 : 1 1", "- | 1 1 : 1 1"},
		"load-buffering":   {"0 | 0 : 1 1", "0 | 1 : 1 1", "1 | 0 : 1 1"},
		"coherence":        {"- | 0 0 : 2 0", "- | 0 1 : 2 0", "- | 0 2 : 2 0", "- | 1 1 : 2 0", "- | 1 2 : 2 0", "- | 2 2 : 2 0"},
		"far-readers":      far,
		"far-lookers":      slices.DeleteFunc(slices.Clone(far), func(s string) bool { return s == "- | - | 1 0 | 1 0 : 1 1" }),
		"swaps":            {"0 | 1 : 1 0", "2 | 0 : 2 0"},
		"release-sequence": {"- | 0 | 0 0 : 1 1", "- | 0 | 0 1 : 1 1", "- | 0 | 1 1 : 1 1", "- | 1 | 0 0 : 1 2", "- | 1 | 0 1 : 1 2", "- | 1 | 1 1 : 1 2", "- | 1 | 2 1 : 1 2"},
	} {
		if l := all(t, name(t, s)); !slices.Equal(l, wanted) {
			t.Errorf("%s: %q, wanted %q", s, l, wanted)
		}
	}
}
