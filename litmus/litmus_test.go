package litmus_test

import (
	"math"
	"slices"
	"testing"

	"simulcast/api"
	"simulcast/litmus"
)

func val(v int64) api.Word { return api.Word{Val: v} }

func act(op int, at api.Loc) api.Act { return api.Act{Op: op, At: at} }

func write(op int, at api.Loc, v int64) api.Act { return api.Act{Op: op, At: at, New: val(v)} }

func swap(at api.Loc, old, new int64) api.Act {
	return api.Act{Op: api.Swap, At: at, Old: val(old), New: val(new)}
}

func step(thread, choice int) api.Pick { return api.Pick{Thread: thread, Choice: choice} }

func stop(thread int) api.Pick { return api.Pick{Kind: api.PickStop, Thread: thread} }

func crash(choice int) api.Pick { return api.Pick{Kind: api.PickCrash, Choice: choice} }

func words(n int) []api.Word { return make([]api.Word, n) }

func threads(l ...[]api.Act) [][]api.Act { return l }

func rests(n int) []api.Act { return make([]api.Act, n) }

func name(t *testing.T, s string) litmus.Test {
	t.Helper()
	x, ok := litmus.Named(s)
	if !ok {
		t.Fatalf("no test %q", s)
	}
	return x
}

func outcome(t *testing.T, x litmus.Test, l ...api.Pick) string {
	t.Helper()
	s, e := x.Outcome(l...)
	if e != api.OK {
		t.Fatalf("Outcome(%v): error %d", l, e)
	}
	return s
}

func all(t *testing.T, x litmus.Test) []string {
	t.Helper()
	l, e := x.All()
	if e != api.OK {
		t.Fatalf("All of %+v: error %d", x, e)
	}
	return l
}

// expectError checks that Check, Outcome and All return the error, and nothing beside it.
func expectError(t *testing.T, what string, x litmus.Test, wanted api.Errno) {
	t.Helper()
	if e := x.Check(); e != wanted {
		t.Errorf("%s: Check %d, wanted %d", what, e, wanted)
	}
	if s, e := x.Outcome(step(1, 0)); e != wanted || s != "" && wanted != api.OK {
		t.Errorf("%s: Outcome %q, %d, wanted %d", what, s, e, wanted)
	}
	if l, e := x.All(); e != wanted || len(l) != 0 && wanted != api.OK {
		t.Errorf("%s: All %q, %d, wanted %d", what, l, e, wanted)
	}
}

// Errors: how many addresses, threads and acts a test may have, and which error comes first.
func TestSizes(t *testing.T) {
	for n := range 8 {
		for k := range 8 {
			wanted := api.OK
			if n < 1 || n > 4 || k < 1 || k > 4 {
				wanted = api.ErrSize
			}
			expectError(t, "sizes", litmus.Test{First: words(n), Threads: make([][]api.Act, k)}, wanted)
		}
	}
	bad := []api.Act{{Op: 9}, {Op: api.Load, At: 9}}
	for _, x := range []struct {
		what   string
		test   litmus.Test
		wanted api.Errno
	}{
		{"the zero test", litmus.Test{}, api.ErrSize},
		{"six acts of one thread", litmus.Test{First: words(1), Threads: threads(rests(6))}, api.OK},
		{"seven acts of one thread", litmus.Test{First: words(1), Threads: threads(rests(7))}, api.ErrMany},
		{"six acts of four threads", litmus.Test{First: words(4), Threads: threads(rests(2), rests(0), rests(1), rests(3))}, api.OK},
		{"seven acts of four threads", litmus.Test{First: words(4), Threads: threads(rests(2), rests(1), rests(1), rests(3))}, api.ErrMany},
		{"no address and seven bad acts", litmus.Test{Threads: threads(bad, rests(5))}, api.ErrSize},
		{"five addresses and bad acts", litmus.Test{First: words(5), Threads: threads(bad)}, api.ErrSize},
		{"five threads and seven bad acts", litmus.Test{First: words(1), Threads: threads(bad, rests(5), nil, nil, nil)}, api.ErrSize},
		{"seven acts, bad ones first", litmus.Test{First: words(1), Threads: threads(bad, rests(5))}, api.ErrMany},
	} {
		expectError(t, x.what, x.test, x.wanted)
	}
}

// Errors: every operation at addresses that exist and that do not, and operations that do not exist.
func TestActs(t *testing.T) {
	for size := 1; size <= 4; size++ {
		for _, at := range []api.Loc{math.MinInt, -1, 0, 1, 2, 3, 4, 4095, 4096, math.MaxInt} {
			for op := api.Rest; op <= api.Sync; op++ {
				wanted := api.OK
				if op != api.Rest && op != api.Sync && (at < 0 || int(at) >= size) {
					wanted = api.ErrArg
				}
				expectError(t, "act", litmus.Test{First: words(size), Threads: threads(rests(1), []api.Act{act(op, at)})}, wanted)
			}
			for _, op := range []int{math.MinInt, -1, 9, 10, math.MaxInt} {
				expectError(t, "op", litmus.Test{First: words(size), Threads: threads(rests(1), []api.Act{act(op, at)})}, api.ErrKind)
			}
		}
	}
	kind, arg := act(9, 0), act(api.Flush, 1)
	for _, x := range []struct {
		threads [][]api.Act
		wanted  api.Errno
	}{
		{threads([]api.Act{kind, arg}), api.ErrKind}, {threads([]api.Act{arg, kind}), api.ErrArg},
		{threads([]api.Act{act(api.Look, 0), arg}, []api.Act{kind}), api.ErrArg},
		{threads(nil, []api.Act{act(api.Look, 0), kind}, []api.Act{arg}), api.ErrKind},
		{threads(rests(1), nil, rests(2), []api.Act{arg, kind}), api.ErrArg},
	} {
		expectError(t, "order of acts", litmus.Test{First: words(1), Threads: x.threads}, x.wanted)
	}
}

// Errors: so many picks and no more; an invalid test comes first.
func TestManyPicks(t *testing.T) {
	x := name(t, "message-plain")
	picks := make([]api.Pick, api.MaxPicks+1)
	if s := outcome(t, x, picks[:api.MaxPicks]...); s != "- | 1 1 : 1 1" {
		t.Errorf("MaxPicks picks of a thread that does not exist: %q", s)
	}
	picks[api.MaxPicks-2], picks[api.MaxPicks-1] = step(2, 0), step(1, 0)
	if s := outcome(t, x, picks[:api.MaxPicks]...); s != "- | 0 1 : 1 1" {
		t.Errorf("the last of MaxPicks picks: %q", s)
	}
	if s, e := x.Outcome(picks...); s != "" || e != api.ErrMany {
		t.Errorf("MaxPicks + 1 picks: %q, %d", s, e)
	}
	for wanted, bad := range map[api.Errno]litmus.Test{
		api.ErrSize: {}, api.ErrKind: {First: words(1), Threads: threads([]api.Act{act(9, 0)})},
		api.ErrArg: {First: words(1), Threads: threads([]api.Act{act(api.Load, 1)})},
	} {
		if s, e := bad.Outcome(picks...); s != "" || e != wanted {
			t.Errorf("MaxPicks + 1 picks of an invalid test: %q, %d, wanted %d", s, e, wanted)
		}
	}
}

// P9.1: steps with their choices, in every order of the picks that the table has; the rest follows, thread 1 first.
func TestOutcomeOfSteps(t *testing.T) {
	plain, passed := name(t, "message-plain"), name(t, "message-passed")
	for _, x := range []struct {
		test   litmus.Test
		picks  []api.Pick
		wanted string
	}{
		{plain, nil, "- | 1 1 : 1 1"},
		{plain, []api.Pick{step(2, 0)}, "- | 0 1 : 1 1"},
		{plain, []api.Pick{step(2, 0), step(2, 0)}, "- | 0 0 : 1 1"},
		{plain, []api.Pick{step(1, 0), step(2, 0), step(2, 0)}, "- | 0 1 : 1 1"},
		{plain, []api.Pick{step(1, 0), step(2, 0), step(2, 1)}, "- | 0 0 : 1 1"},
		{plain, []api.Pick{step(1, 0), step(2, 0), step(2, 2)}, "- | 0 1 : 1 1"},
		{plain, []api.Pick{step(1, 0), step(1, 0), step(2, 1)}, "- | 0 1 : 1 1"},
		{plain, []api.Pick{step(1, 9), step(1, -9), step(2, 0), step(2, 1)}, "- | 1 0 : 1 1"},
		{plain, []api.Pick{step(1, 0), step(1, 0), step(2, math.MinInt), step(2, math.MaxInt)}, "- | 1 0 : 1 1"},
		{plain, []api.Pick{step(1, 0), step(1, 0), step(2, 0), step(2, -1)}, "- | 1 1 : 1 1"},
		{passed, []api.Pick{step(1, 0), step(1, 0), step(2, 0), step(2, 1)}, "- | 1 1 : 1 1"},
		{passed, []api.Pick{step(1, 0), step(1, 0), step(2, 1), step(2, 1)}, "- | 0 0 : 1 1"},
		{name(t, "swaps"), nil, "0 | 1 : 1 0"},
		{name(t, "swaps"), []api.Pick{step(2, 0)}, "2 | 0 : 2 0"},
		{name(t, "release-sequence"), nil, "- | 1 | 2 1 : 1 2"},
		{name(t, "release-sequence"), []api.Pick{step(3, 0), step(2, 0)}, "- | 0 | 0 1 : 1 1"},
	} {
		if s := outcome(t, x.test, x.picks...); s != x.wanted {
			t.Errorf("%v: %q, wanted %q", x.picks, s, x.wanted)
		}
	}
}

// P9.1: picks without effect: threads that do not exist, have finished or are stopped, and other kinds.
func TestPicksWithoutEffect(t *testing.T) {
	x := name(t, "message-plain")
	picks := []api.Pick{step(2, 0), step(1, 0), step(2, 0), step(1, 0)}
	wanted := outcome(t, x, picks...)
	if wanted != "- | 0 1 : 1 1" {
		t.Fatalf("without others: %q", wanted)
	}
	idle := []api.Pick{{Kind: -1, Thread: 1}, {Kind: 3, Thread: 1}, {Kind: 7, Thread: 2, Choice: 1}, {Kind: math.MinInt, Thread: 2}, {Kind: math.MaxInt, Thread: 1}}
	for _, thread := range []int{math.MinInt, -1, 0, 3, 4, 5, 8, 9, math.MaxInt} {
		idle = append(idle, step(thread, 0), stop(thread))
	}
	for _, p := range idle {
		for i := range len(picks) + 1 {
			if s := outcome(t, x, slices.Insert(slices.Clone(picks), i, p)...); s != wanted {
				t.Errorf("%+v before pick %d: %q, wanted %q", p, i, s, wanted)
			}
		}
	}
	for _, p := range []api.Pick{step(1, 0), step(2, 0), step(2, 1), stop(1), stop(2)} {
		if s := outcome(t, x, append(slices.Clone(picks), p, p)...); s != wanted {
			t.Errorf("%+v after the end: %q, wanted %q", p, s, wanted)
		}
	}
}

// P9.1: a stopped thread executes nothing more; the others finish.
func TestStop(t *testing.T) {
	x := litmus.Test{First: words(2), Threads: threads(
		[]api.Act{write(api.Store, 0, 1), act(api.Look, 1), write(api.Store, 0, 2)},
		[]api.Act{write(api.Store, 1, 3), act(api.Look, 0), write(api.Store, 1, 4)})}
	for _, y := range []struct {
		picks  []api.Pick
		wanted string
	}{
		{nil, "0 | 2 : 2 4"},
		{[]api.Pick{stop(1)}, "- | 0 : 0 4"},
		{[]api.Pick{stop(2)}, "0 | - : 2 0"},
		{[]api.Pick{stop(1), stop(2)}, "- | - : 0 0"},
		{[]api.Pick{stop(1), step(1, 0), stop(1), step(1, 0)}, "- | 0 : 0 4"},
		{[]api.Pick{step(1, 0), stop(1), step(1, 0)}, "- | 1 : 1 4"},
		{[]api.Pick{step(1, 0), step(1, 0), stop(1)}, "0 | 1 : 1 4"},
		{[]api.Pick{step(2, 0), stop(2), step(2, 0), step(1, 0)}, "3 | - : 2 3"},
		{[]api.Pick{step(2, 0), step(1, 0), {Kind: api.PickStop, Thread: 2, Choice: 77}, step(1, 0), stop(1), step(1, 0)}, "3 | - : 1 3"},
	} {
		if s := outcome(t, x, y.picks...); s != y.wanted {
			t.Errorf("%v: %q, wanted %q", y.picks, s, y.wanted)
		}
	}
}

// P9.1: a crash keeps what the machine's Crash keeps, and ends all threads; what they have read before is told.
func TestCrash(t *testing.T) {
	x := litmus.Test{First: []api.Word{val(7), val(8)}, Threads: threads(
		[]api.Act{write(api.Store, 0, 1), act(api.Flush, 0), act(api.Sync, 9), write(api.Store, 0, 2)},
		[]api.Act{act(api.Load, 0), act(api.Look, 1)})}
	for _, y := range []struct {
		picks  []api.Pick
		wanted string
	}{
		{[]api.Pick{crash(-1)}, "- | - : 7 8"},
		{[]api.Pick{step(1, 0), crash(-1)}, "- | - : 7 8"},
		{[]api.Pick{step(1, 0), crash(-2)}, "- | - : 1 8"},
		{[]api.Pick{step(1, 0), crash(0)}, "- | - : 7 8"},
		{[]api.Pick{step(1, 0), crash(1)}, "- | - : 1 8"}, // 31 mod 1009 mod 2 = 1 store is kept
		{[]api.Pick{step(1, 0), crash(2)}, "- | - : 7 8"}, // 62 mod 1009 mod 2 = 0
		{[]api.Pick{step(1, 0), step(1, 0), crash(-1)}, "- | - : 7 8"},
		{[]api.Pick{step(1, 0), step(1, 0), step(1, 0), crash(-1)}, "- | - : 1 8"},
		{[]api.Pick{step(1, 0), step(1, 0), step(1, 0), step(1, 0), crash(-1)}, "- | - : 1 8"},
		{[]api.Pick{step(1, 0), step(1, 0), step(1, 0), step(1, 0), crash(-2)}, "- | - : 2 8"},
		{[]api.Pick{step(1, 0), step(2, 0), crash(-1)}, "- | 1 : 7 8"},
		{[]api.Pick{step(1, 0), step(2, 1), crash(-2), step(2, 0), step(1, 0), stop(1)}, "- | 7 : 1 8"},
		{[]api.Pick{step(1, 0), step(2, 0), step(2, 0), crash(-2), crash(-1)}, "- | 1 8 : 1 8"},
		{[]api.Pick{step(1, 0), stop(1), step(2, 0), {Kind: api.PickCrash, Thread: 9, Choice: -1}}, "- | 1 : 7 8"},
	} {
		if s := outcome(t, x, y.picks...); s != y.wanted {
			t.Errorf("%v: %q, wanted %q", y.picks, s, y.wanted)
		}
	}
}

// The definition of an outcome: which acts return words, and the text forms of words of every form.
func TestOutcomeText(t *testing.T) {
	installed := api.Word{Val: -5, Ver: 2, Ref: 1<<24 + 7}
	other := api.Word{Val: math.MinInt64, Ver: api.MaxVer}
	malformed := api.Word{Val: 3, Ref: 5}
	every := litmus.Test{First: []api.Word{installed, other}, Threads: threads(
		[]api.Act{act(api.Load, 0), act(api.Acquire, 1), act(api.Look, 0), {Op: api.Swap, At: 1, Old: other, New: val(4)}},
		[]api.Act{{Op: api.Swap, At: 0, Old: val(-5), New: val(6)}})}
	for _, x := range []struct {
		test   litmus.Test
		wanted string
	}{
		{every, "-5.2#1:7 -9223372036854775808.4294967295 -5.2#1:7 -9223372036854775808.4294967295 | -5.2#1:7 : -5.2#1:7 4"},
		{litmus.Test{First: []api.Word{installed}, Threads: threads(
			[]api.Act{act(api.Rest, -1), {Op: api.Store, New: other}, act(api.Flush, 0), act(api.Sync, -1)}, nil,
			[]api.Act{{Op: api.Release, New: val(math.MaxInt64)}})}, "- | - | - : 9223372036854775807"},
		{litmus.Test{First: words(1), Threads: threads(nil)}, "- : 0"},
		{litmus.Test{First: []api.Word{{}, {Ver: 1}, val(-2), {Val: 1}}, Threads: threads(nil, nil, nil, nil)}, "- | - | - | - : 0 0.1 -2 1"},
		{litmus.Test{First: []api.Word{malformed, val(1)}, Threads: threads([]api.Act{act(api.Look, 0)}, []api.Act{act(api.Load, 0), act(api.Load, 1), act(api.Load, 0)}, nil)}, " |  1  | - :  1"},
	} {
		if s := outcome(t, x.test); s != x.wanted {
			t.Errorf("%q, wanted %q", s, x.wanted)
		}
		if l := all(t, x.test); !slices.Contains(l, x.wanted) {
			t.Errorf("All: %q, without %q", l, x.wanted)
		}
	}
}

// Values: a test is neither changed nor kept, and what is returned is new.
func TestMemory(t *testing.T) {
	x := name(t, "release-sequence")
	x.First = append(make([]api.Word, 0, 5), val(3), val(4))
	for i, acts := range x.Threads {
		x.Threads[i] = append(make([]api.Act, 0, 5), acts...)
	}
	picks := append(make([]api.Pick, 0, 4), step(3, 0), step(1, 0))
	first, wanted := all(t, x), outcome(t, x, picks...)
	if !slices.Equal(x.First, []api.Word{val(3), val(4)}) || x.First[:3][2] != (api.Word{}) || x.Threads[0][:3][2] != (api.Act{}) || picks[:3][2] != (api.Pick{}) {
		t.Error("an argument has changed")
	}
	kept := slices.Clone(first)
	second := all(t, x)
	for i := range second {
		second[i] = "changed"
	}
	if third := all(t, x); !slices.Equal(first, kept) || !slices.Equal(third, kept) {
		t.Errorf("All after a change of a result: %q, wanted %q", third, kept)
	}
	if s := outcome(t, x, picks...); s != wanted {
		t.Errorf("Outcome once more: %q, wanted %q", s, wanted)
	}
}
