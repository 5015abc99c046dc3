package hazard

import (
	"simulcast/api"
	"simulcast/layout"
	"simulcast/task"
)

// The phases of an unfinished Protect: which result it waits for.
const (
	fresh = iota
	reading
	publishing
	rereading
)

// protecting is a Protect that has not finished.
type protecting struct {
	at, hazard api.Loc
	phase      int
	word       api.Word // while publishing and rereading: what the last Look has found
}

// Next publishes what it has read until it reads the same word again: only then the location has held the value while
// the hazard was to be seen, and a thread that removes the value later will find the hazard.
func (p protecting) Next(g api.Got) (task.Code, api.Act, bool) {
	switch {
	case p.phase == fresh:
		return p.look(reading)
	case p.phase == publishing:
		return p.look(rereading)
	case p.phase == rereading && g.Word == p.word:
		return protected{p.word}, api.Act{}, true
	}
	p.phase, p.word = publishing, g.Word
	return p, publish(p.hazard, g.Word.Val), false
}

func (p protecting) look(phase int) (task.Code, api.Act, bool) {
	p.phase = phase
	return p, api.Act{Op: api.Look, At: p.at}, false
}

// protected is a finished Protect.
type protected struct{ word api.Word }

// Next has nothing left to do.
func (p protected) Next(api.Got) (task.Code, api.Act, bool) { return p, api.Act{}, true }

// clearing is a Clear.
type clearing struct {
	hazard api.Loc
	begun  bool
}

// Next resets the hazard, whatever it is, by a single act.
func (c clearing) Next(api.Got) (task.Code, api.Act, bool) {
	if c.begun {
		return c, api.Act{}, true
	}
	c.begun = true
	return c, publish(c.hazard, 0), false
}

// publish returns the act that sets a hazard.
func publish(hazard api.Loc, v int64) api.Act {
	return api.Act{Op: api.Release, At: hazard, New: api.Word{Val: v}}
}

// hazards has the hazard of each thread, thread 1 first. It is an array so that each state of a Scan has its own.
type hazards [api.MaxThreads]int64

// scanning is a Scan that has not finished.
type scanning struct {
	layout layout.Layout
	thread int     // whose hazard the pending act reads; 0 before the first act
	found  hazards // those of the threads before it
}

// Next reads the hazards one after another.
func (s scanning) Next(g api.Got) (task.Code, api.Act, bool) {
	if s.thread > 0 {
		s.found[s.thread-1] = g.Word.Val
	}
	if s.thread == s.layout.Threads {
		return scanned{s.found}, api.Act{}, true
	}
	s.thread++
	return s, api.Act{Op: api.Look, At: s.layout.Hazard(s.thread)}, false
}

// scanned is a finished Scan.
type scanned struct{ found hazards }

// Next has nothing left to do.
func (s scanned) Next(api.Got) (task.Code, api.Act, bool) { return s, api.Act{}, true }

func (s scanned) held() []int64 {
	var held []int64
	for _, h := range s.found {
		if h != 0 {
			held = append(held, h)
		}
	}
	return held
}
