package help_test

import (
	"slices"

	"simulcast/api"
	"simulcast/help"
	"simulcast/layout"
	"simulcast/task"
)

// worker is the program of a thread of the tests: orders one after another.
type worker struct {
	layout  layout.Layout
	durable bool
	orders  []order  // what is left
	results []result // of the helps that have ended, but for nested ones
	helping uint32   // the reference of the help that runs, or 0
	then    func(w worker, g api.Got) (task.Code, api.Act, bool)
}

// order begins what a worker is to do; behind it the worker goes on with the next one.
type order func(w worker) (task.Code, api.Act, bool)

type result struct {
	ref    uint32
	status int
}

func (w worker) Next(g api.Got) (task.Code, api.Act, bool) {
	if w.then == nil {
		return w.next()
	}
	return w.then(w, g)
}

func (w worker) next() (task.Code, api.Act, bool) {
	if len(w.orders) == 0 {
		return w, api.Act{}, true
	}
	first := w.orders[0]
	w.orders = w.orders[1:]
	return first(w)
}

func (w worker) act(a api.Act, then func(w worker, g api.Got) (task.Code, api.Act, bool)) (task.Code, api.Act, bool) {
	w.then = then
	return w, a, false
}

func (w worker) acts(list []api.Act, then order) (task.Code, api.Act, bool) {
	if len(list) == 0 {
		return then(w)
	}
	return w.act(list[0], func(w worker, _ api.Got) (task.Code, api.Act, bool) { return w.acts(list[1:], then) })
}

// help runs the help of a reference.
func (w worker) help(ref uint32, then func(w worker, status int) (task.Code, api.Act, bool)) (task.Code, api.Act, bool) {
	c, e := help.New(w.layout, ref, w.durable)
	if e != api.OK {
		panic("no such owner")
	}
	w.helping = ref
	return w.resume(c, api.Got{}, then)
}

func (w worker) resume(c task.Code, g api.Got, then func(w worker, status int) (task.Code, api.Act, bool)) (task.Code, api.Act, bool) {
	next, act, finished := c.Next(g)
	if finished {
		status, _ := help.Status(next)
		w.results = append(slices.Clip(w.results), result{w.helping, status})
		w.helping = 0
		return then(w, status)
	}
	return w.act(act, func(w worker, g api.Got) (task.Code, api.Act, bool) { return w.resume(next, g, then) })
}

// see reads a location: it looks until nobody holds it, and helps who does.
func (w worker) see(at api.Loc, then func(w worker, found api.Word) (task.Code, api.Act, bool)) (task.Code, api.Act, bool) {
	return w.act(api.Act{Op: api.Look, At: at}, func(w worker, g api.Got) (task.Code, api.Act, bool) {
		if g.Word.Ref == 0 {
			return then(w, g.Word)
		}
		return w.help(g.Word.Ref, func(w worker, status int) (task.Code, api.Act, bool) {
			if status != stale {
				return w.see(at, then)
			}
			free := api.Act{Op: api.Swap, At: at, Old: g.Word, New: api.Word{Val: g.Word.Val, Ver: g.Word.Ver}}
			return w.act(free, func(w worker, _ api.Got) (task.Code, api.Act, bool) { return w.see(at, then) })
		})
	})
}

// begin writes the descriptor of an operation, and helps it.
func (w worker) begin(o op, then order) (task.Code, api.Act, bool) {
	first, _ := placeOf(w.layout, o.who)
	words := o.words()
	var acts []api.Act
	release := func(status int) {
		acts = append(acts, api.Act{Op: api.Release, At: first, New: api.Word{Val: int64(status), Ver: uint32(o.seq)}})
	}
	flush := func(n int) {
		for i := 0; i < n && w.durable; i += 8 {
			acts = append(acts, api.Act{Op: api.Flush, At: first + api.Loc(i)})
		}
		if w.durable {
			acts = append(acts, api.Act{Op: api.Sync})
		}
	}
	release(filling)
	flush(1)
	for i, x := range words[1:] {
		acts = append(acts, api.Act{Op: api.Store, At: first + 1 + api.Loc(i), New: x})
	}
	flush(len(words))
	release(open)
	flush(1)
	return w.acts(acts, func(w worker) (task.Code, api.Act, bool) {
		return w.help(o.ref(), func(w worker, _ int) (task.Code, api.Act, bool) { return then(w) })
	})
}

// helping is the help of a reference.
func helping(ref uint32) order {
	return func(w worker) (task.Code, api.Act, bool) {
		return w.help(ref, func(w worker, _ int) (task.Code, api.Act, bool) { return w.next() })
	}
}

// seeing is one look at a location, and the help of who holds it.
func seeing(at api.Loc) order {
	return func(w worker) (task.Code, api.Act, bool) {
		return w.see(at, func(w worker, _ api.Word) (task.Code, api.Act, bool) { return w.next() })
	}
}

// swapping is the operation of an owner with the given entries.
func swapping(o op) order {
	return func(w worker) (task.Code, api.Act, bool) { return w.begin(o, worker.next) }
}

// change is what an operation is to do at a location: to add something, or nothing but to expect what is there.
type change struct {
	at    api.Loc
	more  int64
	write bool
}

// changing sees what is at some locations, and then swaps: it is done if nobody else has changed them between.
func changing(who, seq int, list ...change) order {
	return func(w worker) (task.Code, api.Act, bool) { return w.expecting(op{who: who, seq: seq}, list) }
}

// expecting goes on with the locations that have not been seen yet.
func (w worker) expecting(o op, list []change) (task.Code, api.Act, bool) {
	if len(list) == 0 {
		return w.begin(o, worker.next)
	}
	c := list[0]
	return w.see(c.at, func(w worker, found api.Word) (task.Code, api.Act, bool) {
		e := api.Entry{At: c.at, Old: found, New: found.Val, Write: c.write}
		if c.write {
			e.New += c.more
		}
		o := o
		o.entries = append(slices.Clip(o.entries), e)
		return w.expecting(o, list[1:])
	})
}
