package arena

import (
	"slices"

	"simulcast/api"
	"simulcast/layout"
	"simulcast/task"
)

// step continues a code with the result of its last act.
type step func(g api.Got) (task.Code, api.Act, bool)

// take is the code that allocates a block.
type take struct {
	then   step // nil once the code has finished; only then the other fields are set
	result int
	err    api.Errno
}

// give is the code that frees a block.
type give struct {
	then   step // as in take
	result int
	err    api.Errno
}

// Next continues the allocation.
func (t take) Next(g api.Got) (task.Code, api.Act, bool) {
	if t.then == nil {
		return t, api.Act{}, true
	}
	return t.then(g)
}

// Next continues the release.
func (c give) Next(g api.Got) (task.Code, api.Act, bool) {
	if c.then == nil {
		return c, api.Act{}, true
	}
	return c.then(g)
}

// pass is one pass of an allocation over the bitmap.
type pass struct {
	layout layout.Layout
	from   int
	seen   []sight // what it has read so far; copied before each addition, since codes are resumed more than once
}

// sight is a bitmap word as a pass has read it.
type sight struct {
	at   api.Loc
	word api.Word
}

func (p pass) begin(api.Got) (task.Code, api.Act, bool) { return p.proceed() }

// proceed goes through the blocks cyclically, as far as the words that the pass has read allow it.
func (p pass) proceed() (task.Code, api.Act, bool) {
	for i := range p.layout.Blocks {
		block := (p.from + i) % p.layout.Blocks
		at, bit := p.layout.Bits(block)
		word, ok := p.find(at)
		if !ok {
			return p.look(at)
		}
		if word.Val&bit == 0 {
			return p.claim(block, word)
		}
	}
	return take{err: api.ErrFull}, api.Act{}, true
}

func (p pass) look(at api.Loc) (task.Code, api.Act, bool) {
	looked := func(g api.Got) (task.Code, api.Act, bool) {
		if !g.OK {
			// Only a machine without that location rejects a look, and such a machine has no free block there.
			g.Word.Val = -1
		}
		return p.with(at, g.Word).proceed()
	}
	return take{then: looked}, api.Act{Op: api.Look, At: at}, false
}

// claim swaps in the bit of a block that is free in its word.
func (p pass) claim(block int, word api.Word) (task.Code, api.Act, bool) {
	at, bit := p.layout.Bits(block)
	swapped := func(g api.Got) (task.Code, api.Act, bool) {
		if g.OK {
			return take{result: block}, api.Act{}, true
		}
		// Only a pass that has found no free block at all may end with ErrFull, so this one ends, and the word that the
		// swap has found is the first of the next one.
		return pass{layout: p.layout, from: p.from}.with(at, g.Word).proceed()
	}
	act := api.Act{Op: api.Swap, At: at, Old: word, New: word}
	act.New.Val |= bit
	return take{then: swapped}, act, false
}

func (p pass) find(at api.Loc) (api.Word, bool) {
	for _, s := range p.seen {
		if s.at == at {
			return s.word, true
		}
	}
	return api.Word{}, false
}

func (p pass) with(at api.Loc, w api.Word) pass {
	p.seen = append(slices.Clone(p.seen), sight{at, w})
	return p
}

// clearing is the state of an unfinished give.
type clearing struct {
	block int
	at    api.Loc
	bit   int64
}

func (c clearing) begin(api.Got) (task.Code, api.Act, bool) {
	// If the machine rejects the look, the word is zero, and the block counts as free.
	return give{then: c.read}, api.Act{Op: api.Look, At: c.at}, false
}

// read continues from the newest word of the bitmap, as the last act has returned it.
func (c clearing) read(g api.Got) (task.Code, api.Act, bool) {
	if g.Word.Val&c.bit == 0 {
		return give{result: c.block, err: api.ErrState}, api.Act{}, true
	}
	act := api.Act{Op: api.Swap, At: c.at, Old: g.Word, New: g.Word}
	act.New.Val &^= c.bit
	return give{then: c.swapped}, act, false
}

func (c clearing) swapped(g api.Got) (task.Code, api.Act, bool) {
	if !g.OK {
		return c.read(g)
	}
	return give{result: c.block}, api.Act{}, true
}
