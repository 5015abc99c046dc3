package layout_test

import (
	"math/rand"
	"testing"

	"simulcast/api"
	"simulcast/layout"
)

// use is what the chapter's definitions use a location for.
type use struct {
	what   string // "" for an unused location
	number int    // of the thread, cell or block
	part   int    // counted from 0
}

// plain lays the locations of a layout one by one, as the definitions say it.
func plain(l layout.Layout) []use {
	var all []use
	line := func() {
		for len(all)%8 > 0 {
			all = append(all, use{})
		}
	}
	all = append(all, use{what: "clock"}, use{what: "era"})
	line()
	for t := 1; t <= l.Threads; t++ {
		all = append(all, use{"announce", t, 0}, use{"hazard", t, 0})
		line()
	}
	for t := 1; t <= l.Threads; t++ {
		all = append(all, use{"record", t, 0}, use{"record", t, 1}, use{"record", t, 2})
		line()
	}
	for i := range l.Cells {
		all = append(all, use{"cell", i, 0})
	}
	line()
	for t := 1; t <= l.Threads; t++ {
		for part := range 104 {
			all = append(all, use{"slot", t, part})
		}
	}
	if l.Blocks == 0 {
		return all
	}
	all = append(all, use{"bits", 0, 0}, use{"bits", 1, 0})
	line()
	for i := range l.Blocks {
		for part := range 32 {
			all = append(all, use{"block", i, part})
		}
	}
	return all
}

// places returns where each use is.
func places(all []use) map[use]api.Loc {
	at := map[use]api.Loc{}
	for i, u := range all {
		if u.what != "" {
			at[u] = api.Loc(i)
		}
	}
	return at
}

// find returns the location of a use, or -1.
func find(at map[use]api.Loc, what string, number int) api.Loc {
	if found, ok := at[use{what, number, 0}]; ok {
		return found
	}
	return -1
}

// expectPlain checks every function of a valid layout against the locations laid one by one.
func expectPlain(t *testing.T, l layout.Layout) {
	t.Helper()
	all := plain(l)
	at := places(all)
	if l.Check() != api.OK || l.Size() != len(all) || l.Clock() != 0 || l.Era() != 1 {
		t.Fatalf("%+v: Check %d, Size %d, wanted %d, Clock %d, Era %d", l, l.Check(), l.Size(), len(all), l.Clock(), l.Era())
	}
	arguments := append([]int{}, far...)
	for i := -3; i <= max(l.Cells, 80)+3; i++ {
		arguments = append(arguments, i)
	}
	for _, i := range arguments {
		for what, got := range map[string]api.Loc{
			"announce": l.Announce(i), "hazard": l.Hazard(i), "record": l.Record(i), "cell": l.Cell(i), "slot": l.Slot(i), "block": l.Block(i),
		} {
			if wanted := find(at, what, i); got != wanted {
				t.Fatalf("%+v: %s of %d at %d, wanted %d", l, what, i, got, wanted)
			}
		}
		expectBits(t, l, at, i)
		expectPlace(t, l, at, i)
	}
	expectMay(t, l, all)
	expectFirst(t, l, all)
}

func expectBits(t *testing.T, l layout.Layout, at map[use]api.Loc, i int) {
	t.Helper()
	wanted, value := api.Loc(-1), int64(0)
	if i >= 0 && i < l.Blocks {
		wanted, value = find(at, "bits", i/32), 1
		for range i % 32 {
			value *= 2
		}
	}
	if got, bit := l.Bits(i); got != wanted || bit != value {
		t.Fatalf("%+v: Bits(%d) is %d, %d, wanted %d, %d", l, i, got, bit, wanted, value)
	}
}

func expectPlace(t *testing.T, l layout.Layout, at map[use]api.Loc, who int) {
	t.Helper()
	wanted, most := api.Loc(-1), 0
	switch {
	case who >= 1 && who <= 8 && who <= l.Threads:
		wanted, most = find(at, "slot", who), 32
	case who >= 9 && who <= 72 && who-9 < l.Blocks:
		wanted, most = find(at, "block", who-9), 10
	}
	if got, n := l.Place(who); got != wanted || n != most {
		t.Fatalf("%+v: Place(%d) is %d, %d, wanted %d, %d", l, who, got, n, wanted, most)
	}
}

// expectMay checks May at every location, which has each region's first and last one among them, and outside.
func expectMay(t *testing.T, l layout.Layout, all []use) {
	t.Helper()
	for i, u := range all {
		if may := l.May(api.Loc(i)); may != (u.what == "cell" || u.what == "record") {
			t.Fatalf("%+v: May(%d) is %v; it is %+v", l, i, may, u)
		}
	}
	outside := append([]int{-1, -2, -8, len(all), len(all) + 1, len(all) + 8}, far...)
	for _, i := range outside {
		if l.May(api.Loc(i)) {
			t.Fatalf("%+v: May(%d)", l, i)
		}
	}
}

func expectFirst(t *testing.T, l layout.Layout, all []use) {
	t.Helper()
	words := l.First()
	if len(words) != len(all) {
		t.Fatalf("%+v: First has %d words, wanted %d", l, len(words), len(all))
	}
	for i, u := range all {
		wanted := api.Word{}
		switch {
		case u.what == "era":
			wanted.Val = 1
		case (u.what == "slot" || u.what == "block") && u.part == 0:
			wanted.Val = 2
		}
		if words[i] != wanted {
			t.Fatalf("%+v: location %d (%+v) is first %+v, wanted %+v", l, i, u, words[i], wanted)
		}
	}
}

// P11.1 to P11.4: small layouts of every number of threads and of cells and blocks around the borders of lines and words.
func TestPlain(t *testing.T) {
	for threads := 1; threads <= 8; threads++ {
		for _, cells := range []int{1, 2, 7, 8, 9, 15, 16, 17, 24} {
			for _, blocks := range []int{0, 1, 2, 31, 32, 33, 63, 64} {
				expectPlain(t, of(threads, cells, blocks))
			}
		}
	}
}

// P11.1 to P11.4: the greatest layouts, and random ones.
func TestPlainGreat(t *testing.T) {
	for _, l := range []layout.Layout{of(1, 2048, 0), of(8, 2048, 0), of(1, 1912, 64), of(8, 1072, 64), of(8, 2048, 33), of(8, 2041, 33), of(1, 2047, 1)} {
		expectPlain(t, l)
	}
	r := rand.New(rand.NewSource(1))
	for n := 0; n < 150; {
		l := of(1+r.Intn(8), 1+r.Intn(2048), r.Intn(65))
		if l.Check() == api.OK {
			expectPlain(t, l)
			n++
		}
	}
}

// owned is a location that a function assigns, and to whom.
type owned struct {
	at    api.Loc
	owner string // "thread", "block", "clock" or "" for what belongs to none of them
	who   int
}

// assigned returns all locations that the functions of a layout assign.
func assigned(l layout.Layout) []owned {
	all := []owned{{l.Clock(), "clock", 0}, {l.Era(), "clock", 0}}
	several := func(first api.Loc, n int, owner string, who int) {
		for i := range n {
			all = append(all, owned{first + api.Loc(i), owner, who})
		}
	}
	for t := 1; t <= l.Threads; t++ {
		several(l.Announce(t), 1, "thread", t)
		several(l.Hazard(t), 1, "thread", t)
		several(l.Record(t), 3, "thread", t)
		several(l.Slot(t), layout.SlotSize, "thread", t)
	}
	for i := range l.Cells {
		several(l.Cell(i), 1, "", 0)
	}
	words := map[api.Loc]bool{}
	for i := range l.Blocks {
		several(l.Block(i), layout.BlockSize, "block", i)
		if at, _ := l.Bits(i); !words[at] {
			words[at] = true
			several(at, 1, "", 0)
		}
	}
	return all
}

// expectApart checks P11.5 for one layout, by the locations that its functions return.
func expectApart(t *testing.T, l layout.Layout) {
	t.Helper()
	seen := map[api.Loc]owned{}
	lines := map[api.Loc]owned{} // the owner of each line with a location of a thread, of a block, or the clock
	bits := map[[2]int64]int{}
	for _, x := range assigned(l) {
		if x.at < 0 || int(x.at) >= l.Size() {
			t.Fatalf("%+v: location %d of %s %d is outside of 0..%d", l, x.at, x.owner, x.who, l.Size()-1)
		}
		if other, ok := seen[x.at]; ok {
			t.Fatalf("%+v: %+v and %+v are one location", l, x, other)
		}
		seen[x.at] = x
		x.at /= 8
		if other, ok := lines[x.at]; ok && other != x {
			t.Fatalf("%+v: %+v and %+v share a line", l, x, other)
		}
		if x.owner != "" {
			lines[x.at] = x
		}
	}
	for _, x := range assigned(l) {
		if line, ok := lines[x.at/8]; ok && x.owner == "" {
			t.Fatalf("%+v: location %d is in a line of %s %d", l, x.at, line.owner, line.who)
		}
	}
	for i := range l.Blocks {
		at, bit := l.Bits(i)
		if other, ok := bits[[2]int64{int64(at), bit}]; ok {
			t.Fatalf("%+v: blocks %d and %d have one bit", l, i, other)
		}
		bits[[2]int64{int64(at), bit}] = i
	}
}

// P11.5: all assigned locations are distinct, in the memory, and apart by lines.
func TestApart(t *testing.T) {
	for threads := 1; threads <= 8; threads++ {
		for _, cells := range []int{1, 7, 8, 9, 64, 65, 1000} {
			for _, blocks := range []int{0, 1, 32, 33, 64} {
				expectApart(t, of(threads, cells, blocks))
			}
		}
	}
	for _, l := range []layout.Layout{of(1, 2048, 0), of(8, 2048, 33), of(1, 1912, 64), of(8, 1072, 64)} {
		expectApart(t, l)
	}
}

// 'Determinism': a layout answers the same however often it is asked, and whatever was asked of others.
func TestAskedAgain(t *testing.T) {
	l, other := of(3, 9, 33), of(8, 2048, 64)
	before := assigned(l)
	other.First()
	assigned(of(1, 1, 1))
	for i, x := range assigned(l) {
		if x != before[i] {
			t.Errorf("%+v, at first %+v", x, before[i])
		}
	}
}
