package desc_test

import (
	"math"
	"math/rand"
	"slices"
	"testing"

	"simulcast/api"
	"simulcast/desc"
	"simulcast/layout"
)

// expectWords checks what Words returns, that it leaves its argument with the spare capacity as it is, and that a caller
// may change what it returns.
func expectWords(t *testing.T, l layout.Layout, d desc.Desc, e api.Errno) {
	t.Helper()
	var wanted []api.Word
	if e == api.OK {
		wanted = plainWords(d)
	}
	behind := api.Entry{At: 77, Old: api.Word{Val: 7, Ver: 7, Ref: 7}, New: 7, Write: true}
	given := append(slices.Clone(d.Entries), behind, behind)
	list := slices.Clone(given)
	d.Entries = list[:len(d.Entries)]
	w, err := desc.Words(l, d)
	if err != e {
		t.Errorf("Words of %+v in %+v: %d, wanted %d", d, l, err, e)
	}
	same(t, "Words", w, wanted)
	again, _ := desc.Words(l, d)
	clear(w[:cap(w)])
	same(t, "the argument of Words", list, given)
	clear(list)
	same(t, "another result of Words", again, wanted)
}

// P19.1: descriptors of every owner, with one entry, with as many as it has room for, and between.
func TestWords(t *testing.T) {
	r := rand.New(rand.NewSource(1))
	for _, l := range layouts {
		for _, who := range owners(l) {
			for _, n := range []int{1, 2, 9, 10, 11, 31, 32} {
				d := anyDesc(r, l, who, n)
				for d.Status = range 4 {
					expectWords(t, l, d, api.OK)
				}
				for _, d.Seq = range []int{1, 2, 1<<24 - 2, 1<<24 - 1} {
					expectWords(t, l, d, api.OK)
				}
			}
		}
	}
}

// Example 1, with the location of c by the chapter of layout.
func TestExample(t *testing.T) {
	l := layout.Layout{Threads: 1, Cells: 8}
	c := l.Cell(0)
	want(t, "cell 0", c, 24)
	d := desc.Desc{Who: 1, Seq: 3, Status: desc.Done, Entries: []api.Entry{{At: c, Old: api.Word{Val: 5, Ver: 2}, New: 9, Write: true}}}
	w, e := desc.Words(l, d)
	want(t, "Words", e, api.OK)
	same(t, "the encoding", w, []api.Word{{Val: 1, Ver: 3}, {Val: 1}, {Val: 24, Ver: 1}, {Val: 5, Ver: 2}, {Val: 9}})
	m := l.First()
	copy(m[l.Slot(1):], w)
	m[c] = api.Word{Val: 5, Ver: 2, Ref: 1<<24 + 3}
	expectLogical(t, l, m, c, api.Word{Val: 9, Ver: 3}, api.OK)
	m[l.Slot(1)] = desc.Status(desc.Open, 3)
	expectLogical(t, l, m, c, api.Word{Val: 5, Ver: 2}, api.OK)
	m[l.Slot(1)] = desc.Status(desc.Done, 4)
	expectLogical(t, l, m, c, api.Word{Val: 5, Ver: 2}, api.OK)
}

// fault makes a descriptor invalid.
type fault struct {
	err  api.Errno
	make func(l *layout.Layout, d *desc.Desc)
}

// wrong is the layout that the fault of the layout puts in place of a valid one.
var wrong = layout.Layout{Threads: 2, Cells: 2049, Blocks: 1}

// faults returns faults in the order in which the chapter lists their errors. Each of them lies at another place of a
// list of ten entries, so that any two can be put together.
func faults() []fault {
	return []fault{
		{api.ErrArg, func(l *layout.Layout, _ *desc.Desc) { *l = wrong }},
		{api.ErrRange, func(_ *layout.Layout, d *desc.Desc) { d.Who += 55 }},
		{api.ErrRange, func(_ *layout.Layout, d *desc.Desc) { d.Seq = 0 }},
		{api.ErrKind, func(_ *layout.Layout, d *desc.Desc) { d.Status = 4 }},
		{api.ErrRange, func(_ *layout.Layout, d *desc.Desc) { d.Entries[3].At = -1 }},
		{api.ErrState, func(_ *layout.Layout, d *desc.Desc) { d.Entries[4].Old.Ref = 1<<24 + 1 }},
		{api.ErrFull, func(_ *layout.Layout, d *desc.Desc) { d.Entries[5].Write, d.Entries[5].Old.Ver = true, math.MaxUint32 }},
		{api.ErrValue, func(_ *layout.Layout, d *desc.Desc) {
			d.Entries[6].Write, d.Entries[6].New = false, d.Entries[6].Old.Val+1
		}},
		{api.ErrTwice, func(_ *layout.Layout, d *desc.Desc) { d.Entries[7].At = d.Entries[2].At }},
		{api.ErrOrder, func(_ *layout.Layout, d *desc.Desc) { d.Entries[8], d.Entries[9] = d.Entries[9], d.Entries[8] }},
		{api.ErrNone, func(_ *layout.Layout, d *desc.Desc) { d.Entries[0].At = 0 }},
		{api.ErrMany, func(l *layout.Layout, d *desc.Desc) {
			last := d.Entries[len(d.Entries)-1]
			last.At = max(last.At, d.Entries[8].At) + 1
			d.Entries = append(d.Entries, last)
		}},
	}
}

// P19.1: each error alone, and of any two the one that the chapter lists first, wherever in the list they lie.
func TestWordsErrors(t *testing.T) {
	valid := layout.Layout{Threads: 2, Cells: 50, Blocks: 3}
	built := func(f ...fault) (layout.Layout, desc.Desc) {
		l, d := valid, desc.Desc{Who: 10, Seq: 5, Status: desc.Open}
		for i := range 10 {
			d.Entries = append(d.Entries, api.Entry{At: cellAt(l, 3*i), Old: api.Word{Val: int64(i), Ver: 2}, New: 7, Write: true})
		}
		for _, f := range f {
			f.make(&l, &d)
		}
		return l, d
	}
	l, d := built()
	expectWords(t, l, d, api.OK)
	all := faults()
	for i, f := range all {
		l, d := built(f)
		expectWords(t, l, d, f.err)
		for _, g := range all[i+1:] {
			l, d := built(f, g)
			expectWords(t, l, d, f.err)
		}
	}
	l, d = built(all...)
	expectWords(t, l, d, api.ErrArg)
}

// P19.1: the edges of each condition.
func TestWordsEdges(t *testing.T) {
	r := rand.New(rand.NewSource(2))
	for _, l := range layouts {
		for _, who := range strangers(l) {
			d := anyDesc(r, l, 1, 3)
			d.Who = who
			expectWords(t, l, d, api.ErrRange)
		}
		for _, who := range owners(l) {
			d := anyDesc(r, l, who, 3)
			for _, seq := range []int{math.MinInt, -1, 0, 1 << 24, 1<<24 + 1, 1 << 32, 1<<32 + 1, math.MaxInt} {
				bad := d
				bad.Seq = seq
				expectWords(t, l, bad, api.ErrRange)
			}
			for _, status := range []int{math.MinInt, -1, 4, 5, 1 << 32, 1<<32 + 1, math.MaxInt} {
				bad := d
				bad.Status = status
				expectWords(t, l, bad, api.ErrKind)
			}
		}
	}
	for _, l := range invalidLayouts {
		for _, who := range []int{-1, 0, 1, 9} {
			expectWords(t, l, desc.Desc{Who: who}, api.ErrArg)
			expectWords(t, l, desc.Desc{Who: who, Seq: 1, Entries: []api.Entry{{At: 40}}}, api.ErrArg)
		}
	}
}

// P19.1: lists of no, one, 10, 11, 32 and 33 entries, in slots and in blocks.
func TestWordsOfLists(t *testing.T) {
	r := rand.New(rand.NewSource(3))
	l := layout.Layout{Threads: 3, Cells: 50, Blocks: 33}
	for _, who := range owners(l) {
		for _, x := range []struct {
			n           int
			slot, block api.Errno
		}{
			{0, api.ErrEmpty, api.ErrEmpty}, {1, api.OK, api.OK}, {10, api.OK, api.OK}, {11, api.OK, api.ErrMany},
			{32, api.OK, api.ErrMany}, {33, api.ErrMany, api.ErrMany}, {59, api.ErrMany, api.ErrMany},
		} {
			e := x.slot
			if who > 8 {
				e = x.block
			}
			expectWords(t, l, desc.Desc{Who: who, Seq: 1, Entries: anyEntries(r, l, x.n)}, e)
		}
		expectWords(t, l, desc.Desc{Who: who, Seq: 1, Entries: []api.Entry{}}, api.ErrEmpty)
	}
}

// P19.1: an entry at every location of a layout and beside it.
func TestWordsOfEveryLocation(t *testing.T) {
	for _, l := range layouts {
		may := places(l)
		for at := api.Loc(-2); at < 4100; at++ {
			e := api.OK
			if at < 0 || at > 4095 {
				e = api.ErrRange
			} else if _, ok := slices.BinarySearch(may, at); !ok {
				e = api.ErrNone
			}
			_, err := desc.Words(l, desc.Desc{Who: 1, Seq: 1, Entries: []api.Entry{{At: at, New: 1, Write: true}}})
			if err != e {
				t.Fatalf("%+v: Words of an entry at %d: %d, wanted %d", l, at, err, e)
			}
		}
	}
}

// P19.1: random descriptors with random faults, against the chapter's list of errors.
func TestWordsOfAnyDescriptor(t *testing.T) {
	r := rand.New(rand.NewSource(4))
	seen := map[api.Errno]int{}
	for range 20000 {
		l := layouts[r.Intn(len(layouts))]
		who := owners(l)[r.Intn(l.Threads+l.Blocks)]
		d := anyDesc(r, l, who, []int{1, 2, 3, 10, 11, 32}[r.Intn(6)])
		for range r.Intn(4) {
			spoil(r, l, &d)
		}
		if r.Intn(50) == 0 {
			l = invalidLayouts[r.Intn(len(invalidLayouts))]
		}
		e := plainError(l, d)
		seen[e]++
		expectWords(t, l, d, e)
	}
	for _, e := range []api.Errno{api.OK, api.ErrArg, api.ErrRange, api.ErrKind, api.ErrEmpty, api.ErrMany, api.ErrState, api.ErrFull, api.ErrValue, api.ErrTwice, api.ErrOrder, api.ErrNone} {
		if seen[e] < 20 {
			t.Errorf("error %d: %d times", e, seen[e])
		}
	}
}

// spoil changes a random part of a descriptor, which may be valid afterwards all the same.
func spoil(r *rand.Rand, l layout.Layout, d *desc.Desc) {
	i, j := 0, 0
	if n := len(d.Entries); n > 0 {
		i, j = r.Intn(n), r.Intn(n)
	}
	kind := r.Intn(40)
	if len(d.Entries) == 0 {
		kind = r.Intn(5)
	}
	switch kind {
	case 0:
		d.Who = r.Intn(76) - 1
	case 1:
		d.Seq = []int{-1, 0, 1, 1<<24 - 1, 1 << 24}[r.Intn(5)]
	case 2:
		d.Status = r.Intn(7) - 1
	case 3:
		d.Entries = nil
	case 4:
		d.Entries = anyEntries(r, l, 33)
	case 5, 6, 7:
		d.Entries[i].At = []api.Loc{-1, 0, 4095, 4096, cellAt(l, 0) - 1, cellAt(l, 0), cellAt(l, l.Cells), recordAt(l, 1, 2), recordAt(l, 1, 3)}[r.Intn(9)]
	case 8, 9, 10:
		d.Entries[i].Old.Ref = r.Uint32()
	case 11, 12, 13, 14, 15, 16:
		d.Entries[i].Old.Ver = math.MaxUint32
	case 17, 18, 19:
		d.Entries[i].New++
	case 20, 21, 22:
		d.Entries[i].At = d.Entries[j].At
	case 23, 24, 25, 26, 27, 28:
		d.Entries[i], d.Entries[j] = d.Entries[j], d.Entries[i]
	case 29:
		d.Entries[i].Write = !d.Entries[i].Write
	}
}

// P19.1: the status word of any numbers.
func TestStatus(t *testing.T) {
	want(t, "Open", desc.Open, 0)
	want(t, "Done", desc.Done, 1)
	want(t, "Failed", desc.Failed, 2)
	want(t, "Filling", desc.Filling, 3)
	for _, status := range []int{0, 1, 2, 3, 4, -1, 1 << 40, math.MinInt, math.MaxInt} {
		for seq, ver := range map[int]uint32{
			0: 0, 1: 1, 7: 7, 1<<24 - 1: 1<<24 - 1, 1 << 24: 1 << 24, math.MaxUint32: math.MaxUint32, 1 << 32: 0, 1<<32 + 5: 5, 3<<32 + 9: 9,
			-1: math.MaxUint32, -5: math.MaxUint32 - 4, -1 << 32: 0, math.MinInt: 0, math.MaxInt: math.MaxUint32,
		} {
			want(t, "Status", desc.Status(status, seq), api.Word{Val: int64(status), Ver: ver})
		}
	}
}

// P19.1: the location of every part of every entry, and what is beside them.
func TestField(t *testing.T) {
	expect := func(l layout.Layout, who, entry, part int, at api.Loc, e api.Errno) {
		t.Helper()
		got, err := desc.Field(l, who, entry, part)
		if got != at || err != e {
			t.Errorf("%+v: Field(%d, %d, %d) is %d, %d, wanted %d, %d", l, who, entry, part, got, err, at, e)
		}
	}
	far := []int{math.MinInt, math.MinInt + 1, -1 << 32, -3, -2, -1, 3, 4, 1 << 32, 1<<32 + 1, 1 << 62, math.MaxInt/3 + 1, math.MaxInt - 1, math.MaxInt}
	for _, l := range layouts {
		for _, who := range owners(l) {
			first, most := placeOf(l, who)
			for entry := -1; entry < 40; entry++ {
				for part := range 3 {
					if entry >= 0 && entry < most {
						expect(l, who, entry, part, first+2+api.Loc(3*entry+part), api.OK)
					} else {
						expect(l, who, entry, part, 0, api.ErrRange)
					}
				}
				for _, part := range far {
					expect(l, who, entry, part, 0, api.ErrRange)
				}
			}
			for _, entry := range far {
				if entry < 0 || entry > 31 {
					expect(l, who, entry, 0, 0, api.ErrRange)
				}
			}
		}
		for _, who := range strangers(l) {
			expect(l, who, 0, 0, 0, api.ErrRange)
			expect(l, who, -1, 3, 0, api.ErrRange)
		}
	}
	for _, l := range invalidLayouts {
		for _, x := range []int{-1, 0, 1, 9, 99} {
			expect(l, x, 0, 0, 0, api.ErrArg)
			expect(l, 1, x, x, 0, api.ErrArg)
		}
	}
}

// P19.1, P19.4: no two parts lie at one location, and Field names the location of each word of an encoding.
func TestFieldIsWhereWordsAre(t *testing.T) {
	r := rand.New(rand.NewSource(5))
	for _, l := range layouts {
		m, used := make([]api.Word, l.Size()), map[api.Loc]bool{}
		for _, who := range owners(l) {
			_, most := placeOf(l, who)
			d := anyDesc(r, l, who, most)
			w, _ := desc.Words(l, d)
			at, _ := l.Place(who)
			m[at], m[at+1] = w[0], w[1]
			used[at], used[at+1] = true, true
			for i, e := range d.Entries {
				for part, x := range desc.Pack(e) {
					at, _ := desc.Field(l, who, i, part)
					if used[at] {
						t.Fatalf("%+v: location %d is used twice", l, at)
					}
					m[at], used[at] = x, true
				}
			}
			got, err := desc.Read(l, m, who)
			want(t, "Read", err, api.OK)
			sameDesc(t, "Read", got, d)
		}
	}
}
