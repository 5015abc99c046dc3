package peek_test

import (
	"slices"

	"simulcast/api"
	"simulcast/layout"
	"simulcast/peek"
	"simulcast/swap"
	"simulcast/task"
)

// worker is the program of a thread of the tests: orders one after another.
type worker struct {
	layout  layout.Layout
	thread  int
	orders  []order // what is left
	seq     int     // of the last swap of the slot
	now     *sight  // the reading that runs
	inner   task.Code
	results []sight // the readings that are done
	then    func(w worker, g api.Got) (task.Code, api.Act, bool)
}

// order is a reading, or a swap if it has changes: of what the worker looks at, whoever holds it.
type order struct {
	at       []api.Loc
	together bool
	durable  bool
	changes  []change
	simple   bool
}

// change is what a swap is to do at a location: to add something, or nothing but to expect what is there.
type change struct {
	at    api.Loc
	more  int64
	write bool
}

// sight is a reading, and what has been read when it is done.
type sight struct {
	order  order
	words  []api.Word
	rounds int
}

func (w worker) Next(g api.Got) (task.Code, api.Act, bool) {
	if w.then == nil {
		return w.next()
	}
	return w.then(w, g)
}

func (w worker) act(a api.Act, then func(w worker, g api.Got) (task.Code, api.Act, bool)) (task.Code, api.Act, bool) {
	w.then = then
	return w, a, false
}

// next begins the first order that is left.
func (w worker) next() (task.Code, api.Act, bool) {
	if len(w.orders) == 0 {
		return w, api.Act{}, true
	}
	o := w.orders[0]
	w.orders = w.orders[1:]
	if len(o.changes) > 0 {
		return w.expect(o, nil)
	}
	make := peek.New
	if o.together {
		make = peek.Together
	}
	w.now = &sight{order: o}
	return w.begin(make(w.layout, o.durable, o.at...))
}

// expect looks at the locations of the changes that are left, and then swaps.
func (w worker) expect(o order, entries []api.Entry) (task.Code, api.Act, bool) {
	if len(entries) < len(o.changes) {
		c := o.changes[len(entries)]
		return w.act(api.Act{Op: api.Look, At: c.at}, func(w worker, g api.Got) (task.Code, api.Act, bool) {
			e := unwritten(c.at, g.Word.Val, g.Word.Ver)
			if c.write {
				e = written(c.at, g.Word.Val, g.Word.Ver, g.Word.Val+c.more)
			}
			return w.expect(o, append(slices.Clip(entries), e))
		})
	}
	if o.simple && entries[0].Write {
		return w.begin(swap.Simple(w.layout, o.durable, entries[0]))
	}
	w.seq++
	return w.begin(swap.New(w.layout, w.thread, w.seq, o.durable, entries...))
}

func (w worker) begin(c task.Code, e api.Errno) (task.Code, api.Act, bool) {
	if e != api.OK {
		panic("an order of no code")
	}
	return w.resume(c, api.Got{})
}

func (w worker) resume(c task.Code, g api.Got) (task.Code, api.Act, bool) {
	next, act, finished := c.Next(g)
	if !finished {
		w.inner = next
		return w.act(act, func(w worker, g api.Got) (task.Code, api.Act, bool) { return w.resume(next, g) })
	}
	if w.now != nil {
		words, _ := peek.Words(next)
		w.results = append(slices.Clip(w.results), sight{w.now.order, words, peek.Rounds(next)})
	}
	w.now, w.inner = nil, nil
	return w.next()
}
