package swap

import (
	"simulcast/api"
	"simulcast/desc"
	"simulcast/help"
	"simulcast/layout"
	"simulcast/task"
	"simulcast/word"
)

// step continues a swap with the result of its last act.
type step func(g api.Got) (task.Code, api.Act, bool)

// code is a swap.
type code struct {
	then step // nil once the swap has finished
	done bool // whether it has succeeded by then
}

// Next continues the swap.
func (c code) Next(g api.Got) (task.Code, api.Act, bool) {
	if c.then == nil {
		return c, api.Act{}, true
	}
	return c.then(g)
}

func wait(act api.Act, then step) (task.Code, api.Act, bool) {
	return code{then: then}, act, false
}

func look(at api.Loc, then step) (task.Code, api.Act, bool) {
	return wait(api.Act{Op: api.Look, At: at}, then)
}

func swap(at api.Loc, old, new api.Word, then step) (task.Code, api.Act, bool) {
	return wait(api.Act{Op: api.Swap, At: at, Old: old, New: new}, then)
}

func end(done bool) (task.Code, api.Act, bool) {
	return code{done: done}, api.Act{}, true
}

// perform goes through acts whose results tell nothing.
func perform(acts []api.Act, then step) (task.Code, api.Act, bool) {
	if len(acts) == 0 {
		return then(api.Got{})
	}
	return wait(acts[0], func(api.Got) (task.Code, api.Act, bool) { return perform(acts[1:], then) })
}

// persist returns the acts after which what is at the location survives a crash. Only a durable swap has any.
func persist(durable bool, at api.Loc) []api.Act {
	if !durable {
		return nil
	}
	return []api.Act{{Op: api.Flush, At: at}, {Op: api.Sync}}
}

// helping is a help that runs inside a swap.
type helping struct {
	nested task.Code
	then   func(status int) (task.Code, api.Act, bool)
}

func (h helping) step(g api.Got) (task.Code, api.Act, bool) {
	next, act, finished := h.nested.Next(g)
	if finished {
		status, _ := help.Status(next)
		return h.then(status)
	}
	h.nested = next
	return wait(act, h.step)
}

// multiple is what a swap with a descriptor knows.
type multiple struct {
	layout   layout.Layout
	durable  bool
	who, seq int
	at       api.Loc    // of the status word
	words    []api.Word // of the descriptor, behind the status word
}

func (m multiple) begin(api.Got) (task.Code, api.Act, bool) { return look(m.at, m.looked) }

// looked goes on with the status word that the last swap of the slot has left.
func (m multiple) looked(g api.Got) (task.Code, api.Act, bool) {
	last := int(g.Word.Ver)
	if last >= m.seq {
		return end(false)
	}
	// The descriptor of a swap that may hold locations is not to be overwritten: its words would be lost.
	if status := g.Word.Val; last > 0 && (status == desc.Open || status == desc.Done) {
		return m.help(last, func(int) (task.Code, api.Act, bool) { return m.open() })
	}
	return m.open()
}

// help completes a swap of the slot.
func (m multiple) help(seq int, then func(status int) (task.Code, api.Act, bool)) (task.Code, api.Act, bool) {
	// Neither fails: the layout has the slot, and the number is from 1 to this swap's.
	ref, _ := word.Ref(m.who, seq)
	nested, _ := help.New(m.layout, ref, m.durable)
	return helping{nested, then}.step(api.Got{})
}

// open writes the descriptor, and lets it be helped.
func (m multiple) open() (task.Code, api.Act, bool) {
	acts := append(m.announce(desc.Filling), m.fill()...)
	return perform(append(acts, m.announce(desc.Open)...), m.complete)
}

// announce returns the acts that set the status.
func (m multiple) announce(status int) []api.Act {
	set := api.Act{Op: api.Release, At: m.at, New: desc.Status(status, m.seq)}
	return append([]api.Act{set}, persist(m.durable, m.at)...)
}

// fill returns the acts that write the words behind the status word.
func (m multiple) fill() []api.Act {
	var acts []api.Act
	for i, w := range m.words {
		acts = append(acts, api.Act{Op: api.Store, At: m.at + 1 + api.Loc(i), New: w})
	}
	if !m.durable {
		return acts
	}
	// A slot begins where a line begins.
	for i := 0; i <= len(m.words); i += api.LineSize {
		acts = append(acts, api.Act{Op: api.Flush, At: m.at + api.Loc(i)})
	}
	return append(acts, api.Act{Op: api.Sync})
}

func (m multiple) complete(api.Got) (task.Code, api.Act, bool) {
	return m.help(m.seq, func(status int) (task.Code, api.Act, bool) { return end(status == desc.Done) })
}

// single is what a swap of one word without a descriptor knows.
type single struct {
	layout  layout.Layout
	durable bool
	entry   api.Entry
}

func (s single) begin(api.Got) (task.Code, api.Act, bool) {
	return look(s.entry.At, func(g api.Got) (task.Code, api.Act, bool) { return s.found(g.Word) })
}

// found goes on with the word at the location.
func (s single) found(w api.Word) (task.Code, api.Act, bool) {
	if nested, err := help.New(s.layout, w.Ref, s.durable); err == api.OK {
		then := func(status int) (task.Code, api.Act, bool) { return s.helped(w, status) }
		return helping{nested, then}.step(api.Got{})
	}
	// Nobody holds the word, or nobody whom the layout has: so it stands for its own Val and Ver.
	old, next := s.entry.Old, api.Word{Val: s.entry.New, Ver: s.entry.Old.Ver + 1}
	if w.Val != old.Val || w.Ver != old.Ver {
		return s.finish(false)
	}
	return swap(s.entry.At, w, next, func(g api.Got) (task.Code, api.Act, bool) {
		if g.OK {
			return s.finish(true)
		}
		return s.found(g.Word)
	})
}

// helped looks again when the owner of the word has been helped.
func (s single) helped(w api.Word, status int) (task.Code, api.Act, bool) {
	if status != help.Stale {
		return s.begin(api.Got{})
	}
	// Nobody completes that operation any more, so its reference has been left behind.
	return swap(s.entry.At, w, api.Word{Val: w.Val, Ver: w.Ver}, s.begin)
}

func (s single) finish(done bool) (task.Code, api.Act, bool) {
	return perform(persist(s.durable, s.entry.At), func(api.Got) (task.Code, api.Act, bool) { return end(done) })
}
