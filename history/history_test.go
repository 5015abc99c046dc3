package history_test

import (
	"math"
	"testing"

	"simulcast/api"
	"simulcast/history"
	"simulcast/view"
)

func message(n int) history.Message {
	var v view.View
	w := api.Word{Val: int64(n), Ver: uint32(n + 1), Ref: uint32(n + 2)}
	return history.Message{Word: w, Thread: n % 8, View: v.With(api.Loc(n), n+3)}
}

func same(a, b history.Message) bool {
	return a.Word == b.Word && a.Thread == b.Thread && view.Same(a.View, b.View)
}

// check compares h with the messages that it should have, at every index and around.
func check(t *testing.T, what string, h history.History, wanted ...history.Message) {
	t.Helper()
	if h.Len() != len(wanted) {
		t.Fatalf("%s: Len is %d, wanted %d", what, h.Len(), len(wanted))
	}
	for i, w := range wanted {
		if m, ok := h.At(i); !ok || !same(m, w) {
			t.Fatalf("%s: At(%d) = %v, %v, wanted %v", what, i, m, ok, w)
		}
	}
	for _, i := range []int{math.MinInt, -1 - len(wanted), -1, len(wanted), len(wanted) + 1, math.MaxInt} {
		if m, ok := h.At(i); ok || !same(m, history.Message{}) {
			t.Fatalf("%s: At(%d) = %v, %v beyond the messages", what, i, m, ok)
		}
	}
	last := history.Message{}
	if len(wanted) > 0 {
		last = wanted[len(wanted)-1]
	}
	if !same(h.Last(), last) {
		t.Fatalf("%s: Last is %v, wanted %v", what, h.Last(), last)
	}
}

// long returns a history with n messages and these messages.
func long(n int) (history.History, []history.Message) {
	var h history.History
	var l []history.Message
	for i := range n {
		h = h.Add(message(i))
		l = append(l, message(i))
	}
	return h, l
}

// P3.1: the zero history has no message, not even at index 0.
func TestEmpty(t *testing.T) {
	check(t, "zero", history.History{})
}

// P3.1: the initial message has the word as it is, thread 0 and the zero view.
func TestNew(t *testing.T) {
	for _, w := range []api.Word{{}, {Val: 5}, {Val: math.MinInt64, Ver: math.MaxUint32, Ref: math.MaxUint32}, {Val: math.MaxInt64, Ver: 1, Ref: 2}} {
		check(t, "New", history.New(w), history.Message{Word: w})
	}
}

// P3.1: Add appends, to the empty history as to others, whatever the message.
func TestAdd(t *testing.T) {
	h, l := long(70)
	check(t, "Add", h, l...)
	odd := []history.Message{{Thread: -1}, {Thread: math.MaxInt}, {Word: api.Word{Ref: 1}, Thread: math.MinInt}, {}}
	n := history.New(api.Word{Val: 9})
	for _, m := range odd {
		n = n.Add(m)
	}
	check(t, "odd", n, append([]history.Message{{Word: api.Word{Val: 9}}}, odd...)...)
}

// P3.2: the choice counts back from the last message and goes round at the first visible one.
func TestChoose(t *testing.T) {
	for n := 1; n <= 6; n++ {
		h, _ := long(n)
		for from := -3; from < n+3; from++ {
			first := min(max(from, 0), n-1)
			at := n - 1
			for choice := range 20 {
				if i := h.Choose(from, choice); i != at {
					t.Fatalf("of %d: Choose(%d, %d) = %d, wanted %d", n, from, choice, i, at)
				}
				at--
				if at < first {
					at = n - 1
				}
			}
			for _, choice := range []int{-1, -2, -n, math.MinInt} {
				if i := h.Choose(from, choice); i != n-1 {
					t.Fatalf("of %d: Choose(%d, %d) = %d", n, from, choice, i)
				}
			}
		}
	}
}

// P3.2: the ends of the numbers.
func TestChooseOfExtremes(t *testing.T) {
	h, _ := long(4)
	for _, x := range []struct{ from, choice, wanted int }{
		{math.MinInt, 0, 3}, {math.MinInt, 1, 2}, {math.MinInt, 3, 0}, {math.MinInt, 4, 3},
		{math.MaxInt, 0, 3}, {math.MaxInt, 1, 3}, {math.MaxInt, math.MaxInt, 3}, {math.MaxInt, math.MinInt, 3},
		{0, math.MaxInt, 3 - math.MaxInt%4}, {1, math.MaxInt, 3 - math.MaxInt%3}, {math.MinInt, math.MinInt, 3},
	} {
		if i := h.Choose(x.from, x.choice); i != x.wanted {
			t.Errorf("Choose(%d, %d) = %d, wanted %d", x.from, x.choice, i, x.wanted)
		}
	}
}

func TestChooseOfEmpty(t *testing.T) {
	numbers := []int{math.MinInt, -1, 0, 1, 5, math.MaxInt}
	for _, from := range numbers {
		for _, choice := range numbers {
			if i := (history.History{}).Choose(from, choice); i != -1 {
				t.Errorf("Choose(%d, %d) = %d", from, choice, i)
			}
		}
	}
}

// P3.3: of k visible messages each is selected by exactly one choice below k.
func TestEachVisibleMessageHasOneChoice(t *testing.T) {
	for n := 1; n <= 9; n++ {
		h, _ := long(n)
		for from := range n {
			times := make([]int, n)
			for choice := range n - from {
				times[h.Choose(from, choice)]++
			}
			for i, k := range times {
				if (i >= from) != (k == 1) || k > 1 {
					t.Fatalf("of %d from %d: message %d is selected %d times", n, from, i, k)
				}
			}
		}
	}
}

// P3.3: histories that grow from one, at any length, and from its copy do not meet.
func TestHistoriesStay(t *testing.T) {
	for n := range 40 {
		h, l := long(n)
		same := h
		left, right := h.Add(message(100)), same.Add(message(200))
		further := left.Add(message(300))
		left.Add(message(400))
		h.Add(message(500)).Add(message(600))
		check(t, "history", h, l...)
		check(t, "copy", same, l...)
		l = append(l, message(100))
		check(t, "left", left, l...)
		check(t, "further", further, append(l, message(300))...)
		l[n] = message(200)
		check(t, "right", right, l...)
	}
}

// P3.3: a message that was given out can be changed without a change of the history.
func TestMessagesStay(t *testing.T) {
	m := message(1)
	h := history.New(api.Word{Val: 5}).Add(m)
	m.Word.Val, m.Thread, m.View = 77, 7, view.View{}
	x, _ := h.At(1)
	x.Word.Val, x.Thread, x.View = 78, 8, x.View.With(0, 9)
	y := h.Last()
	y.Word.Ver, y.View = 79, y.View.With(0, 9)
	check(t, "history", h, history.Message{Word: api.Word{Val: 5}}, message(1))
}

// The example of the chapter.
func TestExample(t *testing.T) {
	h := history.New(api.Word{Val: 5})
	for _, v := range []int64{6, 7} {
		h = h.Add(history.Message{Word: api.Word{Val: v}, Thread: 1})
	}
	for _, x := range [][3]int{{0, 0, 2}, {0, 1, 1}, {1, 2, 2}, {9, 4, 2}, {-3, 5, 0}} {
		if i := h.Choose(x[0], x[1]); i != x[2] {
			t.Errorf("Choose(%d, %d) = %d, wanted %d", x[0], x[1], i, x[2])
		}
	}
}
