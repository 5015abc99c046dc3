package era_test

import (
	"slices"

	"simulcast/api"
	"simulcast/era"
	"simulcast/layout"
	"simulcast/task"
)

// The orders for a worker.
const (
	entering = iota
	leaving
	advancing
)

// worker is a code that carries out orders one after another, for the thread of that number.
type worker struct {
	layout layout.Layout
	thread int
	orders []int // those that it has not finished; the first of them is under way if inner is not nil
	inner  task.Code
	last   task.Code // the code of the order that it has finished last
	ended  int       // how many orders it has finished
}

func (w worker) Next(g api.Got) (task.Code, api.Act, bool) {
	for len(w.orders) > 0 {
		if w.inner == nil {
			w.inner, g = w.begin(), api.Got{}
		}
		next, act, finished := w.inner.Next(g)
		w.inner = next
		if !finished {
			return w, act, false
		}
		w.last, w.inner, w.ended = next, nil, w.ended+1
		w.orders = slices.Clone(w.orders[1:])
	}
	return w, api.Act{}, true
}

// begin makes the code of the first order.
func (w worker) begin() task.Code {
	var c task.Code
	switch w.orders[0] {
	case entering:
		c, _ = era.Enter(w.layout, w.thread)
	case leaving:
		c, _ = era.Leave(w.layout, w.thread)
	case advancing:
		c, _ = era.Advance(w.layout)
	}
	return c
}

func workerOf(t task.Task) worker {
	w, _ := t.Code().(worker)
	return w
}
