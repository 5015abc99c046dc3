package help

import (
	"slices"

	"simulcast/api"
	"simulcast/desc"
	"simulcast/layout"
	"simulcast/task"
	"simulcast/word"
)

// How many words a packed entry has.
const entryWords = 3

// step continues a help with the result of its last act.
type step func(g api.Got) (task.Code, api.Act, bool)

// code is a help.
type code struct {
	then   step      // nil once the help is done
	nested task.Code // the help that runs inside this one, if there is one
	status int       // once the help is done
}

// Next continues the help.
func (c code) Next(g api.Got) (task.Code, api.Act, bool) {
	if c.then == nil {
		return c, api.Act{}, true
	}
	return c.then(g)
}

func wait(act api.Act, then step) (task.Code, api.Act, bool) {
	return code{then: then}, act, false
}

func look(at api.Loc, then step) (task.Code, api.Act, bool) {
	return wait(api.Act{Op: api.Look, At: at}, then)
}

func load(at api.Loc, then step) (task.Code, api.Act, bool) {
	return wait(api.Act{Op: api.Load, At: at}, then)
}

func swap(at api.Loc, old, new api.Word, then step) (task.Code, api.Act, bool) {
	return wait(api.Act{Op: api.Swap, At: at, Old: old, New: new}, then)
}

func end(status int) (task.Code, api.Act, bool) {
	return code{status: status}, api.Act{}, true
}

// operation is what a help knows of the operation that it completes. A machine that rejects a Look or a Load returns the
// zero word, which is neither a status word nor a count of the operation, nor held by it.
type operation struct {
	layout   layout.Layout
	ref      uint32
	durable  bool
	who, seq int
	at       api.Loc     // of the status word
	most     int         // entries
	entries  []api.Entry // none until they have been read
}

// stage returns the status in a status word of the operation, or Stale if it is none: a descriptor that is still filled,
// or that another operation has filled since, is not to be helped.
func (o operation) stage(w api.Word) int {
	for _, status := range []int{desc.Open, desc.Done, desc.Failed} {
		if w == desc.Status(status, o.seq) {
			return status
		}
	}
	return Stale
}

func (o operation) begin(api.Got) (task.Code, api.Act, bool) { return look(o.at, o.count) }

func (o operation) count(g api.Got) (task.Code, api.Act, bool) {
	if o.stage(g.Word) == Stale {
		return end(Stale)
	}
	return load(o.at+1, o.counted)
}

func (o operation) counted(g api.Got) (task.Code, api.Act, bool) {
	n := g.Word.Val
	if g.Word != (api.Word{Val: n}) || n < 1 || n > int64(o.most) {
		return end(Stale)
	}
	return o.read(int(n), nil)
}

// read loads the words of n entries that are not among the given ones yet.
func (o operation) read(n int, words []api.Word) (task.Code, api.Act, bool) {
	if len(words) == n*entryWords {
		return look(o.at, func(g api.Got) (task.Code, api.Act, bool) { return o.understand(g.Word, words) })
	}
	at, _ := desc.Field(o.layout, o.who, len(words)/entryWords, len(words)%entryWords)
	return load(at, func(g api.Got) (task.Code, api.Act, bool) {
		return o.read(n, append(slices.Clip(words), g.Word))
	})
}

// understand goes on with the words of all entries. The status word, which was looked at behind them, tells whether they
// are all of this operation.
func (o operation) understand(status api.Word, words []api.Word) (task.Code, api.Act, bool) {
	stage := o.stage(status)
	entries, ok := o.unpack(words)
	if stage == Stale || !ok {
		return end(Stale)
	}
	o.entries = entries
	if stage != desc.Open {
		return o.settle(api.Got{})
	}
	return o.install(0)
}

// unpack returns the entries, or false if they cannot be those of a descriptor.
func (o operation) unpack(words []api.Word) ([]api.Entry, bool) {
	var entries []api.Entry
	for packed := range slices.Chunk(words, entryWords) {
		e, ok := desc.Unpack([entryWords]api.Word(packed))
		if !ok {
			return nil, false
		}
		entries = append(entries, e)
	}
	// Only a descriptor that fits the layout has an encoding.
	_, err := desc.Words(o.layout, desc.Desc{Who: o.who, Seq: o.seq, Entries: entries})
	return entries, err == api.OK
}

// install lets the operation hold the locations of its entries, from number i on.
func (o operation) install(i int) (task.Code, api.Act, bool) {
	if i == len(o.entries) {
		return o.persist(o.places(), func(api.Got) (task.Code, api.Act, bool) { return o.decide(desc.Done) })
	}
	e := o.entries[i]
	held := e.Old
	held.Ref = o.ref
	return swap(e.At, e.Old, held, func(g api.Got) (task.Code, api.Act, bool) {
		if g.OK || g.Word == held {
			return o.install(i + 1)
		}
		nested, err := New(o.layout, g.Word.Ref, o.durable)
		if err != api.OK || g.Word.Ref == o.ref {
			return o.decide(desc.Failed)
		}
		return o.meet(i, g.Word, nested)
	})
}

// meet goes on where another operation holds the location of entry i. That one is in the way only as long as this one is
// undecided.
func (o operation) meet(i int, found api.Word, nested task.Code) (task.Code, api.Act, bool) {
	return look(o.at, func(g api.Got) (task.Code, api.Act, bool) {
		if o.stage(g.Word) != desc.Open {
			return o.settle(g)
		}
		return o.nest(i, found, nested, api.Got{})
	})
}

// nest continues the nested help, and then tries to install entry i again.
func (o operation) nest(i int, found api.Word, nested task.Code, g api.Got) (task.Code, api.Act, bool) {
	nested, act, finished := nested.Next(g)
	if !finished {
		then := func(g api.Got) (task.Code, api.Act, bool) { return o.nest(i, found, nested, g) }
		return code{then: then, nested: nested}, act, false
	}
	if status, _ := Status(nested); status != Stale {
		return o.install(i)
	}
	// Nobody completes that operation any more, so its reference has been left behind.
	free := api.Word{Val: found.Val, Ver: found.Ver}
	return swap(o.entries[i].At, found, free, func(api.Got) (task.Code, api.Act, bool) { return o.install(i) })
}

// decide sets the status, unless another help has done so.
func (o operation) decide(verdict int) (task.Code, api.Act, bool) {
	return swap(o.at, desc.Status(desc.Open, o.seq), desc.Status(verdict, o.seq), o.settle)
}

// settle goes on behind the decision, whoever has made it.
func (o operation) settle(api.Got) (task.Code, api.Act, bool) {
	return o.persist([]api.Loc{o.at}, func(api.Got) (task.Code, api.Act, bool) { return look(o.at, o.settled) })
}

func (o operation) settled(g api.Got) (task.Code, api.Act, bool) {
	status := o.stage(g.Word)
	if status == desc.Open {
		status = Stale
	}
	return o.release(0, status)
}

// release lets go of the locations of the entries, from number i on.
func (o operation) release(i, status int) (task.Code, api.Act, bool) {
	if i == len(o.entries) {
		return o.persist(o.places(), func(api.Got) (task.Code, api.Act, bool) { return end(status) })
	}
	e := o.entries[i]
	return look(e.At, func(g api.Got) (task.Code, api.Act, bool) {
		free, err := word.Release(g.Word, e.New, e.Write && status == desc.Done)
		if err != api.OK || g.Word.Ref != o.ref {
			return o.release(i+1, status)
		}
		return swap(e.At, g.Word, free, func(api.Got) (task.Code, api.Act, bool) { return o.release(i+1, status) })
	})
}

func (o operation) places() []api.Loc {
	var places []api.Loc
	for _, e := range o.entries {
		places = append(places, e.At)
	}
	return places
}

// persist makes what is at the locations survive a crash before it goes on, if the help is durable.
func (o operation) persist(places []api.Loc, then step) (task.Code, api.Act, bool) {
	switch {
	case !o.durable:
		return then(api.Got{})
	case len(places) == 0:
		return wait(api.Act{Op: api.Sync}, then)
	}
	return wait(api.Act{Op: api.Flush, At: places[0]}, func(api.Got) (task.Code, api.Act, bool) {
		return o.persist(places[1:], then)
	})
}
