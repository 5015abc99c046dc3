package line_test

import (
	"math/rand"
	"slices"
	"testing"

	"simulcast/api"
	"simulcast/line"
)

const (
	places = 19
	lines  = 3
)

type write struct {
	at   int
	word api.Word
}

// plain is the lines once more, written out as the chapter says it, with whole logs, and changed in place.
type plain struct {
	initial   [places]api.Word
	logs      [lines][]write
	kept      [lines]int
	requested [9][lines]int
}

func (p *plain) sync(thread int) {
	for i, n := range p.requested[thread] {
		p.kept[i] = max(p.kept[i], n)
	}
	p.requested[thread] = [lines]int{}
}

// crash returns the images of the guaranteed prefixes, each longer by what extra says.
func (p *plain) crash(extra func(number, many int) int) []api.Word {
	words := p.initial
	for i, log := range p.logs {
		for _, w := range log[:p.kept[i]+extra(i, len(log)-p.kept[i])] {
			words[w.at] = w.word
		}
	}
	return words[:]
}

func compare(t *testing.T, l line.Lines, p *plain, seed int64) {
	t.Helper()
	if !slices.Equal(l.Least(), p.crash(func(int, int) int { return 0 })) {
		t.Fatalf("seed %d: Least is %v", seed, l.Least())
	}
	for _, choice := range []int{-3, -2, -1, 0, 1, 2, 3, 4, 5, 97, 1000} {
		extra := func(number, many int) int { return mixed(choice, number, many) }
		if !slices.Equal(l.Crash(choice), p.crash(extra)) {
			t.Fatalf("seed %d: Crash(%d) is %v", seed, choice, l.Crash(choice))
		}
	}
	for i := range lines {
		expectKept(t, "random", l, i, p.kept[i], len(p.logs[i]))
	}
}

// step runs one random operation on both.
func step(r *rand.Rand, l line.Lines, p *plain) (line.Lines, api.Errno) {
	thread, at := 1+r.Intn(8), r.Intn(places)
	switch r.Intn(5) {
	case 0:
		p.requested[thread][at/8] = len(p.logs[at/8])
		return l.Flush(thread, api.Loc(at))
	case 1:
		p.sync(thread)
		return l.Sync(thread)
	}
	w := api.Word{Val: r.Int63(), Ver: r.Uint32(), Ref: r.Uint32()}
	p.logs[at/8] = append(p.logs[at/8], write{at, w})
	return l.Store(api.Loc(at), w)
}

// P5.1 to P5.3: long runs held against the plain lines, and none of the lines on the way changes afterwards.
func TestRandomRuns(t *testing.T) {
	for seed := range int64(40) {
		r := rand.New(rand.NewSource(seed))
		p := &plain{}
		for i := range p.initial {
			p.initial[i] = api.Word{Val: r.Int63(), Ver: r.Uint32(), Ref: r.Uint32()}
		}
		l, _ := line.New(p.initial[:]...)
		var elder []line.Lines
		var seen []sight
		for i := range 120 {
			elder, seen = append(elder, l), append(seen, look(l))
			n, e := step(r, l, p)
			if e != api.OK {
				t.Fatalf("seed %d, step %d: error %d", seed, i, e)
			}
			// What another run makes of the same lines must not be seen by the first.
			step(r, l, &plain{})
			l = n
			compare(t, l, p, seed)
		}
		for i, x := range elder {
			if !look(x).same(seen[i]) {
				t.Fatalf("seed %d: the lines before step %d have changed", seed, i)
			}
		}
	}
}
