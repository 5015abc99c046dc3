package arena_test

import (
	"fmt"
	"math/rand"
	"slices"
	"testing"

	"simulcast/api"
	"simulcast/arena"
	"simulcast/layout"
	"simulcast/machine"
	"simulcast/task"
)

// run lets a code run alone on a memory image, and returns the finished code, the memory behind it, and its acts.
func run(t *testing.T, l layout.Layout, w []api.Word, c task.Code) (task.Code, []api.Word, []api.Act) {
	t.Helper()
	m, e := machine.New(l.Threads, w...)
	if e != api.OK {
		t.Fatal("New:", e)
	}
	x, _ := task.Make(m, c)
	var acts []api.Act
	for !x.Done() {
		a, _ := x.Tasks[0].Act()
		acts = append(acts, a)
		expectUnfinished(t, "running", x.Tasks[0].Code())
		x = x.Run(api.Pick{Thread: 1})
		if len(acts) > words(l)+3 {
			t.Fatalf("not finished alone after %d steps", len(acts))
		}
	}
	return x.Tasks[0].Code(), x.M.Words(), acts
}

// words returns the number of bitmap words.
func words(l layout.Layout) int { return (l.Blocks + 31) / 32 }

func take(t *testing.T, l layout.Layout, from int) task.Code {
	t.Helper()
	c, e := arena.Take(l, from)
	if c == nil || e != api.OK {
		t.Fatalf("Take from %d: %v, %d", from, c, e)
	}
	return c
}

func give(t *testing.T, l layout.Layout, block int) task.Code {
	t.Helper()
	c, e := arena.Give(l, block)
	if c == nil || e != api.OK {
		t.Fatalf("Give of %d: %v, %d", block, c, e)
	}
	return c
}

// isBitmap reports whether a location has the bit of a block.
func isBitmap(l layout.Layout, at api.Loc) bool {
	for i := range l.Blocks {
		if found, _ := l.Bits(i); found == at {
			return true
		}
	}
	return false
}

// expectAct checks what holds for every act: a Look or a Swap on a bitmap word, and a Swap changes the bit of one block.
func expectAct(t *testing.T, l layout.Layout, a api.Act, taking bool) {
	t.Helper()
	if a.Op != api.Look && a.Op != api.Swap || !isBitmap(l, a.At) {
		t.Fatalf("act %+v", a)
	}
	if a.Op == api.Look {
		return
	}
	for i := range l.Blocks {
		at, bit := l.Bits(i)
		if at != a.At || a.Old.Val^a.New.Val != bit {
			continue
		}
		if (a.New.Val&bit != 0) != taking || a.Old.Ver != a.New.Ver || a.Old.Ref != a.New.Ref {
			break
		}
		return
	}
	t.Fatalf("a swap of %+v for %+v", a.Old, a.New)
}

// expectActs checks the acts of a code that ran alone.
func expectActs(t *testing.T, l layout.Layout, acts []api.Act, taking, changed bool) {
	t.Helper()
	if len(acts) == 0 || len(acts) > words(l)+3 {
		t.Fatalf("%d acts", len(acts))
	}
	for i, a := range acts {
		expectAct(t, l, a, taking)
		if last := i == len(acts)-1; (a.Op == api.Swap) != (changed && last) {
			t.Fatalf("act %d of %+v", i, acts)
		}
	}
}

// firstFree returns the block that Take is to return, or -1.
func firstFree(l layout.Layout, used []int, from int) int {
	for i := from; i < l.Blocks; i++ {
		if !slices.Contains(used, i) {
			return i
		}
	}
	for i := range from {
		if !slices.Contains(used, i) {
			return i
		}
	}
	return -1
}

// marked returns an image of random words with these blocks used; the bits of no block are random, too.
func marked(r *rand.Rand, l layout.Layout, used []int) []api.Word {
	w := image(r, l.Size())
	for i := range l.Blocks {
		at, bit := l.Bits(i)
		w[at].Val &^= bit
		if slices.Contains(used, i) {
			w[at].Val |= bit
		}
	}
	return w
}

// expectTake runs a Take alone, and checks its result, its acts, and that no other word and bit has changed.
func expectTake(t *testing.T, l layout.Layout, w []api.Word, from int) {
	t.Helper()
	wanted := firstFree(l, arena.Used(l, w), from)
	c, after, acts := run(t, l, w, take(t, l, from))
	what := fmt.Sprintf("%d blocks, %v used, Take from %d", l.Blocks, arena.Used(l, w), from)
	expectActs(t, l, acts, true, wanted >= 0)
	w = slices.Clone(w)
	if wanted >= 0 {
		expectBlock(t, what, c, wanted, api.OK)
		at, bit := l.Bits(wanted)
		w[at].Val += bit
	} else {
		expectBlock(t, what, c, 0, api.ErrFull)
	}
	if !slices.Equal(after, w) {
		t.Errorf("%s: other words have changed", what)
	}
}

// P12.1, P12.2: Take of every block, cyclically, with all but a few blocks used, or all.
func TestTakeAlone(t *testing.T) {
	r := rand.New(rand.NewSource(1))
	for _, n := range numbers {
		l := blocks(n)
		for from := range n {
			for free := range 4 {
				var used []int
				for i := range n {
					if r.Intn(n) >= free {
						used = append(used, i)
					}
				}
				expectTake(t, l, marked(r, l, used), from)
			}
		}
	}
}

// P12.1: Take finds the only free block from every other one, through both words and round.
func TestTakeGoesRound(t *testing.T) {
	r := rand.New(rand.NewSource(2))
	for _, n := range []int{1, 32, 33, 64} {
		l := blocks(n)
		for free := range n {
			var used []int
			for i := range n {
				if i != free {
					used = append(used, i)
				}
			}
			for from := 0; from < n; from += 1 + r.Intn(5) {
				expectTake(t, l, marked(r, l, used), from)
			}
		}
	}
}

// P12.1, P12.2: Give of every block, used or not.
func TestGiveAlone(t *testing.T) {
	r := rand.New(rand.NewSource(3))
	for _, n := range numbers {
		l := blocks(n)
		for block := range n {
			for range 3 {
				w := image(r, l.Size())
				isUsed := slices.Contains(arena.Used(l, w), block)
				c, after, acts := run(t, l, w, give(t, l, block))
				what := fmt.Sprintf("%d blocks, Give of %d, used %v", n, block, isUsed)
				expectActs(t, l, acts, false, isUsed)
				if isUsed {
					expectBlock(t, what, c, block, api.OK)
					at, bit := l.Bits(block)
					w[at].Val &^= bit
				} else {
					expectBlock(t, what, c, block, api.ErrState)
				}
				if !slices.Equal(after, w) {
					t.Errorf("%s: other words have changed", what)
				}
			}
		}
	}
}

// Example 1.
func TestExample(t *testing.T) {
	l := blocks(40)
	w := l.First()
	after := func(c task.Code) task.Code {
		t.Helper()
		var done task.Code
		done, w, _ = run(t, l, w, c)
		return done
	}
	expectBlock(t, "Take from 5", after(take(t, l, 5)), 5, api.OK)
	expectBlock(t, "Take from 5 again", after(take(t, l, 5)), 6, api.OK)
	expectBlock(t, "Give(5)", after(give(t, l, 5)), 5, api.OK)
	expectBlock(t, "Give(5) again", after(give(t, l, 5)), 5, api.ErrState)
	expectBlock(t, "Take from 39", after(take(t, l, 39)), 39, api.OK)
	expectBlock(t, "Take from 39 again", after(take(t, l, 39)), 0, api.OK)
	if used := arena.Used(l, w); !slices.Equal(used, []int{0, 6, 39}) {
		t.Errorf("used at last: %v", used)
	}
}

// P12.1: Takes one after another get every block once, in their order, and then ErrFull; Gives free them all.
func TestAllBlocks(t *testing.T) {
	for _, n := range numbers {
		l := blocks(n)
		w := l.First()
		var c task.Code
		from := n / 2
		for i := range n {
			c, w, _ = run(t, l, w, take(t, l, from))
			expectBlock(t, "Take", c, (from+i)%n, api.OK)
		}
		full := slices.Clone(w)
		c, w, _ = run(t, l, w, take(t, l, from))
		expectBlock(t, "Take of a full bitmap", c, 0, api.ErrFull)
		if !slices.Equal(w, full) || len(arena.Used(l, w)) != n {
			t.Errorf("%d blocks: used %v", n, arena.Used(l, w))
		}
		for i := range n {
			c, w, _ = run(t, l, w, give(t, l, i))
			expectBlock(t, "Give", c, i, api.OK)
		}
		if !slices.Equal(w, l.First()) {
			t.Errorf("%d blocks: %v are used at last", n, arena.Used(l, w))
		}
	}
}

// 'Values': each state of a code continues in the same way however often it is resumed, and whatever it got elsewhere.
func TestCodesAreValues(t *testing.T) {
	l := blocks(34)
	low, high := api.Word{Val: 1<<32 - 2, Ver: 3}, api.Word{Val: 3, Ref: 9}
	other := low
	other.Val++
	for _, x := range []struct {
		what  string
		c     task.Code
		gots  []api.Got
		block int
		err   api.Errno
	}{
		{"round", take(t, l, 1), []api.Got{{}, {Word: low, OK: true}, {Word: high, OK: true}, {Word: low, OK: true}}, 0, api.OK},
		{"disturbed", take(t, l, 0), []api.Got{{}, {Word: low, OK: true}, {Word: other}, {Word: high, OK: true}}, 0, api.ErrFull},
		{"give", give(t, l, 32), []api.Got{{}, {Word: high, OK: true}, {Word: low}}, 32, api.ErrState},
		{"give again", give(t, l, 32), []api.Got{{}, {Word: high, OK: true}, {Word: api.Word{Val: 1}}, {Word: api.Word{Val: 1}, OK: true}}, 32, api.OK},
	} {
		c := x.c
		for i, g := range x.gots {
			expectUnfinished(t, x.what, c)
			next, a, finished := c.Next(g)
			for _, else1 := range x.gots {
				for _, else2 := range x.gots {
					d, _, _ := c.Next(else1)
					d.Next(else2)
				}
			}
			again, b, f := c.Next(g)
			if a != b || finished != f || finished != (i == len(x.gots)-1) {
				t.Errorf("%s, call %d again: %+v, %v, at first %+v, %v", x.what, i, b, f, a, finished)
			}
			if !finished {
				expectSame(t, x.what, next, again, x.gots)
			}
			c = next
		}
		expectBlock(t, x.what, c, x.block, x.err)
		for range 3 {
			next, a, finished := c.Next(api.Got{Word: other, OK: true})
			if a != (api.Act{}) || !finished {
				t.Errorf("%s, behind the end: %+v, %v", x.what, a, finished)
			}
			expectBlock(t, x.what, next, x.block, x.err)
		}
	}
}

// expectSame checks that two codes continue alike.
func expectSame(t *testing.T, what string, a, b task.Code, gots []api.Got) {
	t.Helper()
	for _, g := range gots {
		_, x, f := a.Next(g)
		_, y, h := b.Next(g)
		if x != y || f != h {
			t.Errorf("%s: the continuations differ: %+v, %v and %+v, %v", what, x, f, y, h)
		}
	}
}

// A machine without the bitmap words: nothing changes, and the codes end as if there were no used and no free block.
func TestNoSuchLocation(t *testing.T) {
	for _, n := range []int{1, 33} {
		l := blocks(n)
		at, _ := l.Bits(0)
		for _, size := range []int{1, int(at)} {
			w := l.First()[:size]
			c, after, _ := run(t, l, w, take(t, l, n-1))
			expectBlock(t, "Take", c, 0, api.ErrFull)
			if !slices.Equal(after, w) {
				t.Error("Take has changed the memory")
			}
			c, after, _ = run(t, l, w, give(t, l, n-1))
			expectBlock(t, "Give", c, n-1, api.ErrState)
			if !slices.Equal(after, w) {
				t.Error("Give has changed the memory")
			}
		}
		c, _, _ := run(t, l, l.First()[:at+1], take(t, l, n-1))
		expectBlock(t, "Take, with the first bitmap word alone", c, 0, api.OK)
	}
}
