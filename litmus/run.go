package litmus

import (
	"slices"
	"strings"

	"simulcast/api"
	"simulcast/machine"
	"simulcast/word"
)

// run is a valid test in the middle of its execution. It is a value: a step returns another run, so that an enumeration
// can go on from one run in several ways.
type run struct {
	machine  machine.Machine
	messages [maxPlaces]int // how many messages each address has
	threads  [maxThreads]thread
	count    int // how many of the threads exist
}

type thread struct {
	left    []api.Act // those not executed yet
	read    []string  // the texts of the words that its acts have returned
	stopped bool
}

func begin(t Test) run {
	// A valid test has as many threads and words as a machine may have.
	m, _ := machine.New(len(t.Threads), t.First...)
	r := run{machine: m, count: len(t.Threads)}
	for i := range t.First {
		r.messages[i] = 1
	}
	for i, acts := range t.Threads {
		r.threads[i].left = acts
	}
	return r
}

func (r run) pick(p api.Pick) run {
	switch p.Kind {
	case api.PickStep:
		return r.step(p.Thread, p.Choice)
	case api.PickStop:
		return r.stop(p.Thread)
	case api.PickCrash:
		return r.crash(p.Choice)
	}
	return r
}

// step executes the next act of thread t, if it has one and may execute it.
func (r run) step(t, choice int) run {
	if !r.ready(t) {
		return r
	}
	next := &r.threads[t-1]
	a := next.left[0]
	// Check has accepted the test, so the machine has nothing to reject.
	m, got, _ := r.machine.Do(t, a, choice)
	r.machine, next.left = m, next.left[1:]
	if machine.Changes(a) && got.OK {
		r.messages[a.At]++
	}
	if reads(a) {
		// The list is clipped since other runs may go on from the same one.
		next.read = append(slices.Clip(next.read), word.Text(got.Word))
	}
	return r
}

func (r run) stop(t int) run {
	if r.exists(t) {
		r.threads[t-1].stopped = true
	}
	return r
}

func (r run) crash(choice int) run {
	r.machine = r.machine.Crash(choice)
	for t := 1; t <= r.count; t++ {
		r = r.stop(t)
	}
	return r
}

// finish lets the threads that are not stopped execute what they have left.
func (r run) finish() run {
	for t := 1; t <= r.count; t++ {
		for r.ready(t) {
			r = r.step(t, 0)
		}
	}
	return r
}

// each calls tell with the outcome of every way in which steps bring the run to its end, once for each way.
func (r run) each(tell func(outcome string)) {
	ended := true
	for t := 1; t <= r.count; t++ {
		if !r.ready(t) {
			continue
		}
		ended = false
		for choice := range r.choices(t) {
			r.step(t, choice).each(tell)
		}
	}
	if ended {
		tell(r.text())
	}
}

// choices returns a number below which are choices for every message that the next act of thread t may read: there are
// no more of them than messages at the address.
func (r run) choices(t int) int {
	a := r.threads[t-1].left[0]
	if a.Op == api.Load || a.Op == api.Acquire {
		return r.messages[a.At]
	}
	return 1
}

func (r run) exists(t int) bool { return t >= 1 && t <= r.count }

func (r run) ready(t int) bool {
	return r.exists(t) && !r.threads[t-1].stopped && len(r.threads[t-1].left) > 0
}

// text returns the outcome of the run as it is now.
func (r run) text() string {
	var threads, words []string
	for _, each := range r.threads[:r.count] {
		threads = append(threads, each.text())
	}
	for _, w := range r.machine.Words() {
		words = append(words, word.Text(w))
	}
	return strings.Join(threads, " | ") + " : " + strings.Join(words, " ")
}

func (h thread) text() string {
	if len(h.read) == 0 {
		return "-"
	}
	return strings.Join(h.read, " ")
}

func reads(a api.Act) bool {
	return a.Op == api.Load || a.Op == api.Acquire || a.Op == api.Look || a.Op == api.Swap
}
