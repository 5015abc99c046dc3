package era_test

import (
	"math"
	"math/rand"
	"slices"
	"testing"

	"simulcast/api"
	"simulcast/arena"
	"simulcast/atom"
	"simulcast/era"
	"simulcast/layout"
	"simulcast/task"
)

var (
	layouts = []layout.Layout{
		{Threads: 1, Cells: 1}, {Threads: 2, Cells: 8}, {Threads: 3, Cells: 9, Blocks: 1}, {Threads: 7, Cells: 100, Blocks: 64}, {Threads: 8, Cells: 2048},
	}
	badLayouts = []layout.Layout{
		{}, {Threads: 0, Cells: 1}, {Threads: 9, Cells: 1}, {Threads: -1, Cells: 1}, {Threads: 1, Cells: 0}, {Threads: 1, Cells: 2049}, {Threads: 2, Cells: 1, Blocks: -1},
		{Threads: 2, Cells: 1, Blocks: 65}, {Threads: 8, Cells: 2048, Blocks: 64}, {Threads: math.MaxInt, Cells: math.MaxInt, Blocks: math.MaxInt}, {Threads: 2, Cells: 1, Blocks: math.MinInt},
	}
	noThreads = []int{math.MinInt, math.MinInt + 1, -1 << 32, -8, -1, 0, 9, 10, 64, 1 << 32, 1<<32 + 1, math.MaxInt - 1, math.MaxInt}
)

// expectNoCode checks that Enter and Leave reject a thread with the same error.
func expectNoCode(t *testing.T, l layout.Layout, thread int, wanted api.Errno) {
	t.Helper()
	if c, e := era.Enter(l, thread); c != nil || e != wanted {
		t.Errorf("Enter(%+v, %d): %v, %d, wanted %d", l, thread, c, e, wanted)
	}
	if c, e := era.Leave(l, thread); c != nil || e != wanted {
		t.Errorf("Leave(%+v, %d): %v, %d, wanted %d", l, thread, c, e, wanted)
	}
}

// P13.1: the errors of Enter, Leave and Advance, and which comes first.
func TestNoCode(t *testing.T) {
	for _, l := range badLayouts {
		for _, thread := range append([]int{1, 2, l.Threads, l.Threads + 1}, noThreads...) {
			expectNoCode(t, l, thread, api.ErrArg)
		}
		if c, e := era.Advance(l); c != nil || e != api.ErrArg {
			t.Errorf("Advance(%+v): %v, %d", l, c, e)
		}
	}
	for _, l := range layouts {
		for _, thread := range append([]int{l.Threads + 1, l.Threads + 8}, noThreads...) {
			expectNoCode(t, l, thread, api.ErrRange)
		}
		for thread := 1; thread <= l.Threads; thread++ {
			enter(t, l, thread)
			leave(t, l, thread)
		}
		advance(t, l)
	}
}

func enter(t *testing.T, l layout.Layout, thread int) task.Code {
	t.Helper()
	c, e := era.Enter(l, thread)
	if c == nil || e != api.OK {
		t.Fatalf("Enter(%+v, %d): %v, %d", l, thread, c, e)
	}
	return c
}

func leave(t *testing.T, l layout.Layout, thread int) task.Code {
	t.Helper()
	c, e := era.Leave(l, thread)
	if c == nil || e != api.OK {
		t.Fatalf("Leave(%+v, %d): %v, %d", l, thread, c, e)
	}
	return c
}

func advance(t *testing.T, l layout.Layout) task.Code {
	t.Helper()
	c, e := era.Advance(l)
	if c == nil || e != api.OK {
		t.Fatalf("Advance(%+v): %v, %d", l, c, e)
	}
	return c
}

func expectNotDone(t *testing.T, what string, c task.Code) {
	t.Helper()
	if n, ok := era.Era(c); n != 0 || ok {
		t.Errorf("%s: Era %d, %v", what, n, ok)
	}
}

func expectEra(t *testing.T, what string, c task.Code, wanted int64) {
	t.Helper()
	if n, ok := era.Era(c); n != wanted || !ok {
		t.Errorf("%s: Era %d, %v, wanted %d", what, n, ok, wanted)
	}
}

// foreign is a code of another package.
type foreign struct{ finished bool }

func (f foreign) Next(api.Got) (task.Code, api.Act, bool) { return f, api.Act{}, f.finished }

type pointed struct{ finished bool }

func (p *pointed) Next(api.Got) (task.Code, api.Act, bool) { return p, api.Act{}, p.finished }

// wrapper is a code of another package with one of package era inside.
type wrapper struct{ task.Code }

// P13.1: Era of codes that are not of this package.
func TestOtherCodes(t *testing.T) {
	l := layout.Layout{Threads: 2, Cells: 1, Blocks: 1}
	c := leave(t, l, 1)
	done := task.Start(c).Give(api.Got{OK: true}).Code()
	expectEra(t, "a finished Leave", done, 0)
	add, _ := atom.New(atom.Op{Kind: atom.Add, N: 1})
	added := task.Start(add).Give(api.Got{OK: true}).Give(api.Got{OK: true})
	take, _ := arena.Take(l, 0)
	taken := task.Start(take).Give(api.Got{OK: true}).Give(api.Got{OK: true})
	if !added.Done() || !taken.Done() {
		t.Fatal("the other codes are not done")
	}
	var none *pointed
	for what, x := range map[string]task.Code{
		"nil": nil, "foreign": foreign{}, "foreign, finished": foreign{true}, "pointer": &pointed{true}, "nil pointer": none,
		"of atom": add, "of atom, finished": added.Code(), "of arena": take, "of arena, finished": taken.Code(),
		"fresh, inside another": wrapper{c}, "finished, inside another": wrapper{done}, "nothing inside another": wrapper{},
	} {
		expectNotDone(t, what, x)
	}
}

// image returns a memory image with random words everywhere.
func image(r *rand.Rand, size int) []api.Word {
	w := make([]api.Word, size)
	for i := range w {
		w[i] = api.Word{Val: int64(r.Uint64()), Ver: r.Uint32(), Ref: r.Uint32()}
	}
	return w
}

// P13.2: Announced of images with random words, and of ones with more words than the layout has locations.
func TestAnnounced(t *testing.T) {
	r := rand.New(rand.NewSource(1))
	for _, l := range layouts {
		for range 20 {
			w := image(r, l.Size()+r.Intn(3))
			kept := slices.Clone(w)
			var wanted []int64
			for i := range l.Threads {
				// By the chapter of layout: one line per thread behind line 0, the announced era first.
				wanted = append(wanted, w[8+8*i].Val)
			}
			got := era.Announced(l, w)
			if !slices.Equal(got, wanted) {
				t.Fatalf("%+v: Announced %v, wanted %v", l, got, wanted)
			}
			again := era.Announced(l, w)
			got[0]++
			if !slices.Equal(w, kept) || !slices.Equal(again, wanted) {
				t.Fatal("Announced shares memory or has changed the image")
			}
		}
		if got := era.Announced(l, l.First()); !slices.Equal(got, make([]int64, l.Threads)) {
			t.Errorf("%+v: announced at first: %v", l, got)
		}
	}
}

// P13.2: Announced of an invalid layout or too few words.
func TestAnnouncedOfNothing(t *testing.T) {
	long := image(rand.New(rand.NewSource(2)), api.MaxLocs+1)
	for _, l := range badLayouts {
		if got := era.Announced(l, long); got != nil {
			t.Errorf("%+v: %v", l, got)
		}
		if got := era.Announced(l, nil); got != nil {
			t.Errorf("%+v, no words: %v", l, got)
		}
	}
	for _, l := range layouts {
		for _, size := range []int{0, 1, 8, 8 * (l.Threads + 1), l.Size() - 8, l.Size() - 1} {
			if got := era.Announced(l, long[:size]); got != nil {
				t.Errorf("%+v, %d words of %d: %v", l, size, l.Size(), got)
			}
		}
		if got := era.Announced(l, long[:l.Size()]); len(got) != l.Threads {
			t.Errorf("%+v, as many words as it needs: %v", l, got)
		}
	}
}

// P13.2: Safe at both ends of a lifetime, with zeros, with no era, and with a birth after the retirement.
func TestSafe(t *testing.T) {
	const least, most = math.MinInt64, math.MaxInt64
	for _, x := range []struct {
		birth, retired int64
		announced      []int64
		safe           bool
	}{
		{3, 9, nil, true}, {3, 9, []int64{}, true}, {least, most, nil, true},
		{3, 9, []int64{2}, true}, {3, 9, []int64{3}, false}, {3, 9, []int64{6}, false}, {3, 9, []int64{9}, false}, {3, 9, []int64{10}, true},
		{3, 3, []int64{3}, false}, {3, 3, []int64{2, 4}, true},
		{3, 9, []int64{2, 10, 1, 11}, true}, {3, 9, []int64{2, 10, 3}, false}, {3, 9, []int64{9, 2, 10}, false}, {3, 9, []int64{0, 5, 0}, false},
		{-1, 1, []int64{0}, true}, {0, 0, []int64{0, 0}, true}, {0, 5, []int64{0}, true}, {-5, 0, []int64{0}, true}, {least, most, []int64{0, 0, 0}, true},
		{-1, 1, []int64{0, 1}, false}, {-1, 1, []int64{-1, 0}, false}, {-4, -2, []int64{-3}, false}, {-4, -2, []int64{3}, true}, {-4, -2, []int64{-5, -1}, true},
		{5, 4, []int64{4, 5}, true}, {9, 3, []int64{3, 4, 5, 6, 7, 8, 9}, true}, {most, least, []int64{least, -1, 1, most}, true},
		{least, least, []int64{least}, false}, {most, most, []int64{most}, false}, {least, most, []int64{1}, false}, {least + 1, most - 1, []int64{least, most}, true},
		{1, 1 << 32, []int64{1<<32 + 1}, true}, {1 << 32, 1 << 33, []int64{1}, true},
		{1, 1, []int64{0, 2}, true}, {1, 2, []int64{0, 2}, false},
	} {
		if got := era.Safe(x.birth, x.retired, x.announced); got != x.safe {
			t.Errorf("Safe(%d, %d, %v): %v", x.birth, x.retired, x.announced, got)
		}
	}
}

// plainSafe is the chapter's definition.
func plainSafe(birth, retired int64, announced []int64) bool {
	for e := birth; e <= retired; e++ {
		if e != 0 && slices.Contains(announced, e) {
			return false
		}
	}
	return true
}

// P13.2: Safe of every small lifetime with every pair of small eras; its arguments stay as they are.
func TestSafeOfSmallEras(t *testing.T) {
	long := []int64{0, 0, 7}
	for birth := int64(-4); birth <= 4; birth++ {
		for retired := int64(-4); retired <= 4; retired++ {
			for a := int64(-5); a <= 5; a++ {
				for b := int64(-5); b <= 5; b++ {
					announced := long[:2]
					announced[0], announced[1] = a, b
					if got := era.Safe(birth, retired, announced); got != plainSafe(birth, retired, announced) {
						t.Fatalf("Safe(%d, %d, %v): %v", birth, retired, announced, got)
					}
					if long[0] != a || long[1] != b || long[2] != 7 {
						t.Fatalf("Safe changes %d, %d, 7 to %v", a, b, long)
					}
				}
			}
		}
	}
}
