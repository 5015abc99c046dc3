package memory_test

import (
	"math/rand"
	"testing"

	"simulcast/api"
	"simulcast/memory"
)

const (
	threads = 3
	places  = 4
)

// knowledge is a view as a plain array.
type knowledge [places]int

type note struct {
	word   api.Word
	author int
	view   knowledge
}

// plain is the memory once more, written out as the chapter says it, and changed in place.
type plain struct {
	notes [places][]note
	seen  [threads + 1]knowledge
}

func newPlain() *plain {
	p := &plain{}
	for i := range p.notes {
		p.notes[i] = []note{{}}
	}
	return p
}

func (p *plain) read(thread, at, index int, join bool) api.Word {
	p.seen[thread][at] = index
	n := p.notes[at][index]
	for i := range places {
		if join {
			p.seen[thread][i] = max(p.seen[thread][i], n.view[i])
		}
	}
	return n.word
}

func (p *plain) load(thread, at, choice int, acquire bool) api.Word {
	last := len(p.notes[at]) - 1
	index := last
	for range choice {
		index--
		if index < p.seen[thread][at] {
			index = last
		}
	}
	return p.read(thread, at, index, acquire)
}

func (p *plain) look(thread, at int) api.Word {
	return p.read(thread, at, len(p.notes[at])-1, true)
}

func (p *plain) store(thread, at int, w api.Word, release bool) {
	p.seen[thread][at] = len(p.notes[at])
	var v knowledge
	v[at] = len(p.notes[at])
	if release {
		v = p.seen[thread]
	}
	p.notes[at] = append(p.notes[at], note{w, thread, v})
}

func (p *plain) swap(thread, at int, old, new api.Word) (api.Word, bool) {
	w := p.look(thread, at)
	if w != old {
		return w, false
	}
	p.store(thread, at, new, true)
	return w, true
}

// compare holds all that a memory shows against the plain one.
func compare(t *testing.T, m memory.Memory, p *plain) {
	t.Helper()
	for i := 1; i <= threads; i++ {
		expect(t, "thread", m.Seen(i), p.seen[i][:]...)
	}
	for l, notes := range p.notes {
		h, _ := m.History(api.Loc(l))
		if h.Len() != len(notes) {
			t.Fatalf("%d messages at %d, wanted %d", h.Len(), l, len(notes))
		}
		for i, n := range notes {
			x, _ := h.At(i)
			if x.Word != n.word || x.Thread != n.author {
				t.Fatalf("message %d at %d is %v, wanted %v", i, l, x, n)
			}
			expect(t, "message", x.View, n.view[:]...)
		}
	}
}

// step runs one random operation on both, and reports whether they read the same.
func step(r *rand.Rand, m memory.Memory, p *plain) (memory.Memory, bool) {
	thread, at, flag := 1+r.Intn(threads), r.Intn(places), r.Intn(2) == 0
	word := api.Word{Val: int64(r.Intn(3)), Ver: uint32(r.Intn(2)), Ref: uint32(r.Intn(2))}
	old := p.notes[at][len(p.notes[at])-1].word
	if r.Intn(3) == 0 {
		old = word
	}
	switch r.Intn(4) {
	case 0:
		choice := r.Intn(6)
		n, w, e := m.Load(thread, api.Loc(at), flag, choice)
		return n, e == api.OK && w == p.load(thread, at, choice, flag)
	case 1:
		n, e := m.Store(thread, api.Loc(at), word, flag)
		p.store(thread, at, word, flag)
		return n, e == api.OK
	case 2:
		n, w, e := m.Look(thread, api.Loc(at))
		return n, e == api.OK && w == p.look(thread, at)
	}
	n, w, ok, e := m.Swap(thread, api.Loc(at), old, word)
	x, swapped := p.swap(thread, at, old, word)
	return n, e == api.OK && w == x && ok == swapped
}

// P4.2 to P4.5: long runs of all operations, held against the plain memory; and the views of the threads never shrink.
func TestRandomRuns(t *testing.T) {
	for seed := range int64(60) {
		r := rand.New(rand.NewSource(seed))
		m, p := fresh(t, threads, places), newPlain()
		for i := range 60 {
			before := p.seen
			n, ok := step(r, m, p)
			if !ok {
				t.Fatalf("seed %d, step %d: another word", seed, i)
			}
			m = n
			compare(t, m, p)
			for thread, k := range before {
				for at, number := range k {
					if p.seen[thread][at] < number {
						t.Fatalf("seed %d, step %d: thread %d forgets a message at %d", seed, i, thread, at)
					}
				}
			}
		}
		if t.Failed() {
			t.Fatalf("seed %d", seed)
		}
	}
}
