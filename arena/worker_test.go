package arena_test

import (
	"slices"

	"simulcast/api"
	"simulcast/arena"
	"simulcast/layout"
	"simulcast/task"
)

// order is an operation for a worker: a Take from block n, a Give of block n, or a Give of the block that it took last.
type order struct {
	kind int
	n    int
}

const (
	taking = iota
	giving
	returning
)

// outcome is a finished operation of a worker.
type outcome struct {
	order order // a returning order has become a giving one
	block int
	err   api.Errno
}

// worker is a code that carries out orders one after another.
type worker struct {
	layout   layout.Layout
	orders   []order // those that it has not finished; the first of them is under way if inner is not nil
	inner    task.Code
	held     []int // the blocks that it took and has not returned
	outcomes []outcome
}

func (w worker) Next(g api.Got) (task.Code, api.Act, bool) {
	for w.inner != nil || len(w.orders) > 0 {
		if w.inner == nil {
			w = w.begin()
			g = api.Got{}
		}
		next, act, finished := w.inner.Next(g)
		w.inner = next
		if !finished {
			return w, act, false
		}
		w = w.end()
	}
	return w, api.Act{}, true
}

// begin makes the code of the first order. A worker that has nothing to return gives block 0, whoever has it.
func (w worker) begin() worker {
	w.orders = slices.Clone(w.orders)
	o := &w.orders[0]
	if o.kind == returning {
		*o = order{giving, 0}
		if last := len(w.held) - 1; last >= 0 {
			o.n = w.held[last]
			w.held = w.held[:last:last]
		}
	}
	if o.kind == taking {
		w.inner, _ = arena.Take(w.layout, o.n)
	} else {
		w.inner, _ = arena.Give(w.layout, o.n)
	}
	return w
}

// end notes the result of the first order.
func (w worker) end() worker {
	block, e, _ := arena.Block(w.inner)
	w.outcomes = append(slices.Clone(w.outcomes), outcome{w.orders[0], block, e})
	if w.orders[0].kind == taking && e == api.OK {
		w.held = append(slices.Clone(w.held), block)
	}
	w.orders, w.inner = w.orders[1:], nil
	return w
}

func workerOf(t task.Task) worker {
	w, _ := t.Code().(worker)
	return w
}
