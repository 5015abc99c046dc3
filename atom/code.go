package atom

import (
	"simulcast/api"
	"simulcast/task"
)

// The phases of a code: what it waits for, or how it has ended.
const (
	fresh = iota
	looking
	swapping
	applied
	failed // there is no word at the location
)

// code is the program of a valid operation.
type code struct {
	op     Op
	phase  int
	seen   api.Word // while swapping: the word that the pending swap expects
	tries  int
	result int64 // once applied
}

// Next looks at the word first, and then swaps until the word is the one that the act before has returned.
func (c code) Next(g api.Got) (task.Code, api.Act, bool) {
	switch c.phase {
	case fresh:
		c.phase = looking
		return c, api.Act{Op: api.Look, At: c.op.At}, false
	case looking:
		if !g.OK {
			// Only a machine without that location rejects a look; no later act would do better.
			return c.end(failed, 0)
		}
		return c.try(g.Word)
	case swapping:
		c.tries++
		if g.OK {
			_, result := Do(c.op, c.seen.Val)
			return c.end(applied, result)
		}
		return c.try(g.Word)
	}
	return c, api.Act{}, true
}

// try continues from the newest word of the location, as the last act has returned it.
func (c code) try(w api.Word) (task.Code, api.Act, bool) {
	v, result := Do(c.op, w.Val)
	if v == w.Val {
		// Nothing is to be changed, so the act that returned the word was the instant of the operation.
		return c.end(applied, result)
	}
	c.phase, c.seen = swapping, w
	w.Val = v
	return c, api.Act{Op: api.Swap, At: c.op.At, Old: c.seen, New: w}, false
}

func (c code) end(phase int, result int64) (task.Code, api.Act, bool) {
	return code{op: c.op, phase: phase, tries: c.tries, result: result}, api.Act{}, true
}
