package block_test

import (
	"slices"

	"simulcast/api"
	"simulcast/block"
	"simulcast/layout"
	"simulcast/swap"
	"simulcast/task"
)

// worker is the program of a thread of the tests: orders one after another. For each it looks at the words, whoever holds
// them, and swaps what it has seen.
type worker struct {
	layout  layout.Layout
	durable bool
	thread  int
	orders  []order // what is left, the first one with the changes that are left to be looked at
	seq     int     // of the last swap of the slot
	now     *attempt
	code    task.Code // of the attempt that runs
	results []result
	then    func(w worker, g api.Got) (task.Code, api.Act, bool)
}

// order is a swap that a worker is to make.
type order struct {
	changes []change
	kind    int
	tries   int // after which the worker gives up
}

// Kinds of orders.
const (
	inBlock = iota // a swap of this package
	inSlot         // a swap with the descriptor in the thread's slot
	simple         // the swap of a single word, the first one
	again          // the entries of the last one, in a block
)

// change is what a swap is to do at a location: to add something, or nothing but to expect what is there.
type change struct {
	at    api.Loc
	more  int64
	write bool
}

// attempt is a swap that a worker makes.
type attempt struct {
	kind, thread, seq int // seq is 0 unless it is in a slot
	entries           []api.Entry
}

type result struct {
	of   *attempt
	done bool
	err  api.Errno
}

func (w worker) Next(g api.Got) (task.Code, api.Act, bool) {
	if w.then == nil {
		return w.next()
	}
	return w.then(w, g)
}

func (w worker) act(a api.Act, then func(w worker, g api.Got) (task.Code, api.Act, bool)) (task.Code, api.Act, bool) {
	w.then = then
	return w, a, false
}

// next begins the first order that is left.
func (w worker) next() (task.Code, api.Act, bool) {
	if len(w.orders) == 0 {
		return w, api.Act{}, true
	}
	o := w.orders[0]
	if o.kind == again && len(w.results) > 0 {
		return w.begin(w.results[len(w.results)-1].of.entries)
	}
	return w.expect(o.changes, nil)
}

// expect looks at the locations of the changes.
func (w worker) expect(list []change, entries []api.Entry) (task.Code, api.Act, bool) {
	if len(list) == 0 {
		return w.begin(entries)
	}
	c := list[0]
	return w.act(api.Act{Op: api.Look, At: c.at}, func(w worker, g api.Got) (task.Code, api.Act, bool) {
		e := unwritten(c.at, g.Word.Val, g.Word.Ver)
		if c.write {
			e = written(c.at, g.Word.Val, g.Word.Ver, g.Word.Val+c.more)
		}
		return w.expect(list[1:], append(slices.Clip(entries), e))
	})
}

// begin makes the swap.
func (w worker) begin(entries []api.Entry) (task.Code, api.Act, bool) {
	var c task.Code
	var e api.Errno
	w.now = &attempt{kind: w.orders[0].kind, thread: w.thread, entries: entries}
	switch {
	case w.now.kind == simple && entries[0].Write:
		w.now.entries = entries[:1]
		c, e = swap.Simple(w.layout, w.durable, entries[0])
	case w.now.kind == inSlot:
		w.seq++
		w.now.seq = w.seq
		c, e = swap.New(w.layout, w.thread, w.seq, w.durable, entries...)
	default:
		w.now.kind = inBlock
		c, e = block.New(w.layout, w.durable, entries...)
	}
	if e != api.OK {
		panic("an order of no swap")
	}
	return w.resume(c, api.Got{})
}

func (w worker) resume(c task.Code, g api.Got) (task.Code, api.Act, bool) {
	next, act, finished := c.Next(g)
	if w.code = next; !finished {
		return w.act(act, func(w worker, g api.Got) (task.Code, api.Act, bool) { return w.resume(next, g) })
	}
	done, e, ok := block.Answer(next)
	if !ok {
		done, _ = swap.Answer(next)
	}
	w.results = append(slices.Clip(w.results), result{w.now, done, e})
	w.now = nil
	w.orders = slices.Clone(w.orders)
	if w.orders[0].tries--; done || w.orders[0].tries <= 0 {
		w.orders = w.orders[1:]
	}
	return w.next()
}
