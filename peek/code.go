package peek

import (
	"iter"
	"slices"

	"simulcast/api"
	"simulcast/help"
	"simulcast/layout"
	"simulcast/task"
)

// step continues a code with the result of its last act.
type step func(g api.Got) (task.Code, api.Act, bool)

// code is a Peek or a Together.
type code struct {
	then   step       // nil once the code is done
	rounds int        // that have been completed
	words  []api.Word // of the last of them
}

// Next continues the code.
func (c code) Next(g api.Got) (task.Code, api.Act, bool) {
	if c.then == nil {
		return c, api.Act{}, true
	}
	return c.then(g)
}

// reading is what a code knows while it is not done.
type reading struct {
	layout            layout.Layout
	durable, together bool
	at                []api.Loc
	rounds            int        // that have been completed
	last              []api.Word // of the last of them
	words             []api.Word // observed since
}

func (r reading) code(then step) code {
	return code{then: then, rounds: r.rounds, words: r.last}
}

func (r reading) wait(act api.Act, then step) (task.Code, api.Act, bool) {
	return r.code(then), act, false
}

// next observes the next address of a round.
func (r reading) next(api.Got) (task.Code, api.Act, bool) {
	return r.wait(api.Act{Op: api.Look, At: r.at[len(r.words)]}, r.looked)
}

func (r reading) looked(g api.Got) (task.Code, api.Act, bool) {
	nested, err := help.New(r.layout, g.Word.Ref, r.durable)
	if err == api.OK {
		return r.help(g.Word, nested, api.Got{})
	}
	// Nobody holds the word, or nobody whom the layout has.
	r.words = append(slices.Clip(r.words), g.Word)
	if len(r.words) < len(r.at) {
		return r.next(api.Got{})
	}
	return r.finish()
}

// help continues the help of the operation that holds the word.
func (r reading) help(held api.Word, nested task.Code, g api.Got) (task.Code, api.Act, bool) {
	nested, act, finished := nested.Next(g)
	if !finished {
		return r.wait(act, func(g api.Got) (task.Code, api.Act, bool) { return r.help(held, nested, g) })
	}
	if status, _ := help.Status(nested); status != help.Stale {
		return r.next(api.Got{})
	}
	// Nobody completes that operation any more, so its reference has been left behind.
	free := api.Act{Op: api.Swap, At: r.at[len(r.words)], Old: held, New: api.Word{Val: held.Val, Ver: held.Ver}}
	return r.wait(free, r.next)
}

// finish ends a round.
func (r reading) finish() (task.Code, api.Act, bool) {
	// The version of a word that is the same as before tells that it has not changed between either.
	settled := !r.together || r.rounds > 0 && same(r.last, r.words)
	r.rounds, r.last, r.words = r.rounds+1, r.words, nil
	switch {
	case !settled:
		return r.next(api.Got{})
	case r.durable:
		return r.persist(r.at)
	}
	return r.end(api.Got{})
}

// persist makes what is at the addresses survive a crash.
func (r reading) persist(at []api.Loc) (task.Code, api.Act, bool) {
	if len(at) == 0 {
		return r.wait(api.Act{Op: api.Sync}, r.end)
	}
	flush := api.Act{Op: api.Flush, At: at[0]}
	return r.wait(flush, func(api.Got) (task.Code, api.Act, bool) { return r.persist(at[1:]) })
}

func (r reading) end(api.Got) (task.Code, api.Act, bool) {
	return r.code(nil), api.Act{}, true
}

func same(a, b []api.Word) bool {
	for x, y := range pairs(a, b) {
		if x != y {
			return false
		}
	}
	return true
}

// pairs goes through two lists of the same length at once.
func pairs(a, b []api.Word) iter.Seq2[api.Word, api.Word] {
	return func(yield func(x, y api.Word) bool) {
		for i, x := range a {
			if !yield(x, b[i]) {
				return
			}
		}
	}
}
