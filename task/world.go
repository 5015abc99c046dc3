package task

import (
	"slices"

	"simulcast/api"
	"simulcast/machine"
)

// World is a machine with its threads: the task of index i is thread i + 1. Its zero value has no machine, and so
// rejects every step.
type World struct {
	M       machine.Machine
	Tasks   []Task
	Stopped []bool
}

// Make returns the world of a machine and the started codes.
func Make(m machine.Machine, l ...Code) (World, api.Errno) {
	threads, _ := m.Size()
	if len(l) > threads {
		return World{}, api.ErrMany
	}
	w := World{m, make([]Task, len(l)), make([]bool, len(l))}
	for i, c := range l {
		w.Tasks[i] = Start(c)
	}
	return w, api.OK
}

// Step applies a pick, and reports whether it had an effect.
func (w World) Step(p api.Pick) (World, bool) {
	w = w.apart()
	if !w.hasMachine() {
		return w, false
	}
	switch {
	case p.Kind == api.PickStep && w.canStep(p.Thread):
		w.perform(p.Thread, p.Choice)
		return w, true
	case p.Kind == api.PickStop && w.canStep(p.Thread):
		w.stop(p.Thread)
		return w, true
	case p.Kind == api.PickCrash:
		return World{M: w.M.Crash(p.Choice)}, true
	}
	return w, false
}

// Run applies the picks in order.
func (w World) Run(l ...api.Pick) World {
	w = w.apart()
	for _, p := range l {
		w, _ = w.Step(p)
	}
	return w
}

// Alone lets thread t make steps with choice 0, and reports whether it has finished after at most that many.
func (w World) Alone(t, most int) (World, bool) {
	w = w.apart()
	if !w.hasThread(t) || w.isStopped(t) {
		return w, false
	}
	for range most {
		next, ok := w.Step(api.Pick{Kind: api.PickStep, Thread: t})
		if !ok {
			break
		}
		w = next
	}
	return w, w.Tasks[t-1].Done()
}

// Done reports whether every task has finished or is stopped.
func (w World) Done() bool {
	for i := range w.Tasks {
		if w.canStep(i + 1) {
			return false
		}
	}
	return true
}

// apart returns the world with lists of its own: whoever has a world can write into its lists, and no other world may
// show that.
func (w World) apart() World {
	return World{w.M, slices.Clone(w.Tasks), slices.Clone(w.Stopped)}
}

func (w World) hasMachine() bool {
	threads, _ := w.M.Size()
	return threads > 0
}

func (w World) hasThread(t int) bool { return t >= 1 && t <= len(w.Tasks) }

// isStopped holds also where Stopped is shorter than Tasks, which it may be in a world that Make did not make.
func (w World) isStopped(t int) bool { return t <= len(w.Stopped) && w.Stopped[t-1] }

// canStep reports whether thread t exists, is not stopped and has not finished.
func (w World) canStep(t int) bool {
	return w.hasThread(t) && !w.isStopped(t) && !w.Tasks[t-1].Done()
}

// perform performs the pending operation of thread t, in place. If the machine rejects it, Do returns the same machine
// and the zero Got, as the task is to see it.
func (w *World) perform(t, choice int) {
	act, _ := w.Tasks[t-1].Act()
	m, got, _ := w.M.Do(t, act, choice)
	w.M, w.Tasks[t-1] = m, w.Tasks[t-1].Give(got)
}

// stop stops thread t, in place.
func (w *World) stop(t int) {
	for len(w.Stopped) < t {
		w.Stopped = append(w.Stopped, false)
	}
	w.Stopped[t-1] = true
}
