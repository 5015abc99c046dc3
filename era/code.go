package era

import (
	"simulcast/api"
	"simulcast/task"
)

// step continues a code with the result of its last act.
type step func(g api.Got) (task.Code, api.Act, bool)

// code is an Enter, a Leave or an Advance.
type code struct {
	then step  // nil once the code is done
	era  int64 // its result, set only then
}

// Next continues the code.
func (c code) Next(g api.Got) (task.Code, api.Act, bool) {
	if c.then == nil {
		return c, api.Act{}, true
	}
	return c.then(g)
}

func perform(a api.Act, then step) (task.Code, api.Act, bool) { return code{then: then}, a, false }

func done(era int64) (task.Code, api.Act, bool) { return code{era: era}, api.Act{}, true }

// plain returns the word for an era. No word of this layer has a version or an owner.
func plain(era int64) api.Word { return api.Word{Val: era} }

// entry has the locations of an Enter that is not done.
type entry struct{ era, announcement api.Loc }

func (e entry) begin(api.Got) (task.Code, api.Act, bool) { return e.look(e.announce) }

func (e entry) look(then step) (task.Code, api.Act, bool) {
	return perform(api.Act{Op: api.Look, At: e.era}, then)
}

// announce announces the era that was read, and reads the era again: if it has advanced in the meantime, blocks that
// were born since do not have the announced era in their lifetime.
func (e entry) announce(g api.Got) (task.Code, api.Act, bool) {
	era := g.Word.Val
	confirm := func(again api.Got) (task.Code, api.Act, bool) {
		if again.Word.Val == era {
			return done(era)
		}
		return e.announce(again)
	}
	reread := func(api.Got) (task.Code, api.Act, bool) { return e.look(confirm) }
	return perform(api.Act{Op: api.Release, At: e.announcement, New: plain(era)}, reread)
}

// exit has the location of a Leave that is not done.
type exit struct{ announcement api.Loc }

func (x exit) begin(api.Got) (task.Code, api.Act, bool) {
	return perform(api.Act{Op: api.Release, At: x.announcement, New: plain(0)}, x.end)
}

func (x exit) end(api.Got) (task.Code, api.Act, bool) { return done(0) }

// increment has the location of an Advance that is not done.
type increment struct{ era api.Loc }

func (i increment) begin(api.Got) (task.Code, api.Act, bool) {
	return perform(api.Act{Op: api.Look, At: i.era}, i.swap)
}

// swap continues from the newest word of the era, as the last act has returned it.
func (i increment) swap(g api.Got) (task.Code, api.Act, bool) {
	next := g.Word.Val + 1
	swapped := func(result api.Got) (task.Code, api.Act, bool) {
		if result.OK {
			return done(next)
		}
		return i.swap(result)
	}
	return perform(api.Act{Op: api.Swap, At: i.era, Old: g.Word, New: plain(next)}, swapped)
}
