package peek_test

import (
	"fmt"
	"math/rand"
	"testing"

	"simulcast/api"
	"simulcast/layout"
	"simulcast/peek"
)

// choices are those of a crash: nothing that is not guaranteed survives, all of it, and parts.
func choices() []int {
	all := []int{-1, -2}
	for i := range 12 {
		all = append(all, 7*i)
	}
	return all
}

// expectKept checks that a word, or a later one, is there behind a crash.
func expectKept(t *testing.T, what string, l layout.Layout, crashed []api.Word, at api.Loc, word api.Word) {
	t.Helper()
	if w := logical(t, l, crashed, at); w != word && w.Ver <= word.Ver {
		t.Fatalf("%s: location %d is %+v, and has been read as %+v", what, at, w, word)
	}
}

// P22.2: a crash behind a durable reading of words that a thread changes, and does not flush, and which stops in the
// middle of that.
func TestCrashBehindReading(t *testing.T) {
	l := layout.Layout{Threads: 2, Cells: 40}
	at := []api.Loc{l.Cell(39), l.Record(1) + 2, l.Cell(4), l.Cell(3)}
	for _, writer := range []order{swapped(add(at[1], 4), change{at[3], 0, false}, add(at[2], 1), add(at[0], 2)), simply(add(at[2], 1))} {
		for n := range 60 {
			for _, all := range []bool{false, true} {
				x := newWatch(t, l, scene(l), []order{writer}, []order{{at: at, together: all, durable: true}})
				x.steps(t, 1, n)
				x.steps(t, 2, 1000)
				for _, choice := range choices() {
					crashed := x.world.M.Crash(choice).Words()
					for i, w := range x.worker(1).results[0].words {
						expectKept(t, fmt.Sprintf("behind %d acts, choice %d", n, choice), l, crashed, at[i], w)
					}
				}
				x.steps(t, 1, 1000)
				for _, choice := range choices() {
					crashed := x.world.M.Crash(choice).Words()
					for i, w := range x.worker(1).results[0].words {
						expectKept(t, fmt.Sprintf("behind %d acts and the others, choice %d", n, choice), l, crashed, at[i], w)
					}
				}
			}
		}
	}
}

// P22.2: a durable reading makes survive what it has read even where nobody has been in the way since; one that is not
// durable does not, so it takes the acts at its end.
func TestCrashBehindPlainWords(t *testing.T) {
	l := layout.Layout{Threads: 2, Cells: 20}
	for k := range 4 {
		durable, together := k%2 == 1, k > 1
		for i := range l.Cells {
			x := newWatch(t, l, scene(l), []order{simply(add(l.Cell(i), 7))}, []order{{at: []api.Loc{l.Cell((i + 10) % 20), l.Cell(i)}, durable: durable, together: together}})
			x.steps(t, 1, 100)
			for {
				_, done := peek.Words(x.worker(1).inner)
				want(t, "not done", done, false)
				if x.steps(t, 2, 1); x.world.Done() {
					break
				}
			}
			wanted := api.Word{}
			if durable {
				wanted = api.Word{Val: 7, Ver: 1}
			}
			want(t, "the word behind a crash", x.world.M.Crash(-1).Words()[l.Cell(i)], wanted)
		}
	}
}

// P22.2: crashes at any time of random runs of durable swaps and readings: no word is lost that a durable reading which
// is done has read.
func TestCrashInRandomSchedules(t *testing.T) {
	reads := 0
	for seed := range int64(120) {
		r := rand.New(rand.NewSource(seed))
		x := anyWatch(t, r, 5, true)
		for !x.world.Done() {
			x.anyStep(t, r, seed%2 == 0)
			choice := choices()[r.Intn(len(choices()))]
			crashed := x.world.M.Crash(choice).Words()
			for _, at := range places(x.layout) {
				if x.safe[at] != (api.Word{}) {
					expectKept(t, fmt.Sprintf("seed %d, choice %d", seed, choice), x.layout, crashed, at, x.safe[at])
					reads++
				}
			}
		}
	}
	if reads < 1000 {
		t.Errorf("only %d words are looked for behind crashes", reads)
	}
}
