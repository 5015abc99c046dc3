package hazard_test

import (
	"slices"

	"simulcast/api"
	"simulcast/hazard"
	"simulcast/layout"
	"simulcast/task"
)

// The orders for a worker: a code of this layer, the Protect of cell 0, or a store of a new value in cell 0.
const (
	protecting = iota
	clearing
	scanning
	replacing
)

// worker is a code that carries out orders one after another, for the thread of that number.
type worker struct {
	layout layout.Layout
	thread int
	orders []int // those that it has not finished; the first of them is under way if inner is not nil
	inner  task.Code
	last   task.Code // the code of the order that it has finished last
	ended  int       // how many orders it has finished
}

func (w worker) Next(g api.Got) (task.Code, api.Act, bool) {
	for len(w.orders) > 0 {
		if w.inner == nil {
			w.inner, g = w.begin(), api.Got{}
		}
		next, act, finished := w.inner.Next(g)
		w.inner = next
		if !finished {
			return w, act, false
		}
		w.last, w.inner, w.ended = next, nil, w.ended+1
		w.orders = slices.Clone(w.orders[1:])
	}
	return w, api.Act{}, true
}

// begin makes the code of the first order. No two stores have the same value, so a value that is replaced never returns.
func (w worker) begin() task.Code {
	var c task.Code
	switch w.orders[0] {
	case protecting:
		c, _ = hazard.Protect(w.layout, w.thread, w.layout.Cell(0))
	case clearing:
		c, _ = hazard.Clear(w.layout, w.thread)
	case scanning:
		c, _ = hazard.Scan(w.layout)
	case replacing:
		c = storing{act: api.Act{Op: api.Release, At: w.layout.Cell(0), New: api.Word{Val: int64(100*w.thread + w.ended)}}}
	}
	return c
}

// storing is a code of one act.
type storing struct {
	act    api.Act
	issued bool
}

func (s storing) Next(api.Got) (task.Code, api.Act, bool) {
	return storing{s.act, true}, s.act, s.issued
}

func workerOf(t task.Task) worker {
	w, _ := t.Code().(worker)
	return w
}
