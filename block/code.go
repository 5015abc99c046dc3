package block

import (
	"simulcast/api"
	"simulcast/arena"
	"simulcast/desc"
	"simulcast/help"
	"simulcast/layout"
	"simulcast/task"
	"simulcast/word"
)

// step continues a swap with the result of its last act.
type step func(g api.Got) (task.Code, api.Act, bool)

// code is a swap.
type code struct {
	then step      // nil once the swap has finished
	who  int       // the owner number of the block that the swap holds; 0 if it holds none
	done bool      // whether the swap has been done by the time it has finished
	err  api.Errno // as done
}

// Next continues the swap.
func (c code) Next(g api.Got) (task.Code, api.Act, bool) {
	if c.then == nil {
		return c, api.Act{}, true
	}
	return c.then(g)
}

func end(done bool, err api.Errno) (task.Code, api.Act, bool) {
	return code{done: done, err: err}, api.Act{}, true
}

// attempt is what a swap knows.
type attempt struct {
	layout  layout.Layout
	durable bool
	entries []api.Entry
	block   int     // which it has taken
	who     int     // the block's owner number, as long as the swap holds it
	at      api.Loc // of the block's first word, the status word
	seq     int
}

func (a attempt) wait(act api.Act, then step) (task.Code, api.Act, bool) {
	return code{then: then, who: a.who}, act, false
}

// perform goes through acts whose results tell nothing.
func (a attempt) perform(acts []api.Act, then step) (task.Code, api.Act, bool) {
	if len(acts) == 0 {
		return then(api.Got{})
	}
	return a.wait(acts[0], func(api.Got) (task.Code, api.Act, bool) { return a.perform(acts[1:], then) })
}

// inner is a code of another layer that runs inside a swap.
type inner struct {
	attempt attempt
	nested  task.Code
	then    func(finished task.Code) (task.Code, api.Act, bool)
}

func (i inner) step(g api.Got) (task.Code, api.Act, bool) {
	next, act, finished := i.nested.Next(g)
	if finished {
		return i.then(next)
	}
	i.nested = next
	return i.attempt.wait(act, i.step)
}

func (a attempt) run(nested task.Code, then func(finished task.Code) (task.Code, api.Act, bool)) (task.Code, api.Act, bool) {
	return inner{a, nested, then}.step(api.Got{})
}

func (a attempt) begin(api.Got) (task.Code, api.Act, bool) {
	take, _ := arena.Take(a.layout, 0) // New rejects a layout without blocks
	return a.run(take, a.taken)
}

func (a attempt) taken(take task.Code) (task.Code, api.Act, bool) {
	block, err, _ := arena.Block(take)
	if err != api.OK {
		return end(false, err)
	}
	a.block, a.who, a.at = block, api.MaxThreads+1+block, a.layout.Block(block)
	return a.wait(api.Act{Op: api.Look, At: a.at}, a.looked)
}

// looked goes on with the status word that the block's last swap has left.
func (a attempt) looked(g api.Got) (task.Code, api.Act, bool) {
	if g.Word.Ver >= api.MaxSeq {
		return a.give(false, api.ErrFull) // the block has no sequence number left
	}
	a.seq = int(g.Word.Ver) + 1
	acts := append(a.announce(desc.Filling), a.fill()...)
	return a.perform(append(acts, a.announce(desc.Open)...), a.complete)
}

// announce returns the acts that set the status.
func (a attempt) announce(status int) []api.Act {
	acts := []api.Act{{Op: api.Release, At: a.at, New: desc.Status(status, a.seq)}}
	if a.durable {
		acts = append(acts, api.Act{Op: api.Flush, At: a.at}, api.Act{Op: api.Sync})
	}
	return acts
}

// fill returns the acts that write the words behind the status word.
func (a attempt) fill() []api.Act {
	last := a.at + 1
	acts := []api.Act{{Op: api.Store, At: last, New: api.Word{Val: int64(len(a.entries))}}}
	for i, e := range a.entries {
		for part, w := range desc.Pack(e) {
			last, _ = desc.Field(a.layout, a.who, i, part)
			acts = append(acts, api.Act{Op: api.Store, At: last, New: w})
		}
	}
	if !a.durable {
		return acts
	}
	// A block begins where a line begins.
	for at := a.at; at <= last; at += api.LineSize {
		acts = append(acts, api.Act{Op: api.Flush, At: at})
	}
	return append(acts, api.Act{Op: api.Sync})
}

func (a attempt) complete(api.Got) (task.Code, api.Act, bool) {
	// Neither fails: the layout has the block, and the number is at most MaxSeq.
	ref, _ := word.Ref(a.who, a.seq)
	nested, _ := help.New(a.layout, ref, a.durable)
	return a.run(nested, a.helped)
}

func (a attempt) helped(nested task.Code) (task.Code, api.Act, bool) {
	status, _ := help.Status(nested)
	return a.give(status == desc.Done, api.OK)
}

// give gives the block back, and lets the swap finish with this answer.
func (a attempt) give(done bool, err api.Errno) (task.Code, api.Act, bool) {
	nested, _ := arena.Give(a.layout, a.block)
	a.who = 0
	return a.run(nested, func(task.Code) (task.Code, api.Act, bool) { return end(done, err) })
}
