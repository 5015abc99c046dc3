package desc_test

import (
	"math"
	"math/rand"
	"slices"
	"testing"

	"simulcast/api"
	"simulcast/desc"
	"simulcast/layout"
)

// expectLogical checks what Logical returns, and that it leaves the image as it is.
func expectLogical(t *testing.T, l layout.Layout, w []api.Word, at api.Loc, wanted api.Word, e api.Errno) {
	t.Helper()
	before := slices.Clone(w)
	got, err := desc.Logical(l, w, at)
	if got != wanted || err != e {
		t.Errorf("%+v: Logical at %d is %+v, %d, wanted %+v, %d", l, at, got, err, wanted, e)
	}
	same(t, "the image", w, before)
}

// scene is an image in which an owner has the descriptor of a swap that is Done and holds its locations.
func scene(l layout.Layout, who, seq int, list ...api.Entry) []api.Word {
	m := l.First()
	at, _ := placeOf(l, who)
	copy(m[at:], plainWords(desc.Desc{Who: who, Seq: seq, Status: desc.Done, Entries: list}))
	for _, e := range list {
		m[e.At] = api.Word{Val: e.Old.Val, Ver: e.Old.Ver, Ref: uint32(who<<24 + seq)}
	}
	return m
}

// P19.3: a word that a Done swap holds, in cells and records, in slots and blocks, and all that makes its word the stored
// one.
func TestLogical(t *testing.T) {
	l := layout.Layout{Threads: 2, Cells: 9, Blocks: 3}
	for _, who := range owners(l) {
		for _, seq := range []int{1, 2, 5, 1<<24 - 1} {
			a := api.Entry{At: recordAt(l, 2, 2), Old: api.Word{Val: 5, Ver: 2}, New: 9, Write: true}
			b := api.Entry{At: cellAt(l, 3), Old: api.Word{Val: -6, Ver: 7}, New: -6}
			c := api.Entry{At: cellAt(l, 8), Old: api.Word{Ver: math.MaxUint32 - 1}, New: 4, Write: true}
			m := scene(l, who, seq, a, b, c)
			first, _ := placeOf(l, who)
			held := func(what string, x, y, z api.Word) {
				t.Helper()
				expectLogical(t, l, m, a.At, x, api.OK)
				expectLogical(t, l, m, b.At, y, api.OK)
				expectLogical(t, l, m, c.At, z, api.OK)
				if t.Failed() {
					t.Fatalf("%s, owner %d, number %d", what, who, seq)
				}
			}
			held("Done", api.Word{Val: 9, Ver: 3}, b.Old, api.Word{Val: 4, Ver: math.MaxUint32})
			for _, status := range []int64{0, 2, 3, 4, -1, 1 << 32, 1<<32 + 1} {
				m[first].Val = status
				held("another status", a.Old, b.Old, c.Old)
			}
			m[first] = desc.Status(desc.Done, seq+1)
			held("the number behind it", a.Old, b.Old, c.Old)
			m[first] = desc.Status(desc.Done, seq-1)
			held("the number ahead of it", a.Old, b.Old, c.Old)
			m[first] = api.Word{Val: desc.Done, Ver: uint32(seq), Ref: 1}
			held("a status word with a reference", a.Old, b.Old, c.Old)
			m[first] = desc.Status(desc.Done, seq)
			m[first+10].Ver = 1 // of the New of c
			held("an entry that is none", a.Old, b.Old, c.Old)
			m[first+10].Ver = 0
			m[first+1].Val = 2
			held("one entry less", api.Word{Val: 9, Ver: 3}, b.Old, c.Old)
			m[first+1].Val = 4
			held("one entry more", a.Old, b.Old, c.Old)
			m[first+1].Val = 3
			m[first+8].Val-- // of the location of c
			held("another location", api.Word{Val: 9, Ver: 3}, b.Old, c.Old)
			m[first+8].Val++
			held("as at first", api.Word{Val: 9, Ver: 3}, b.Old, api.Word{Val: 4, Ver: math.MaxUint32})
		}
	}
}

// P19.3: the word that counts is the stored one, whatever the entry expects.
func TestLogicalOfOtherWords(t *testing.T) {
	l := layout.Layout{Threads: 2, Cells: 9, Blocks: 3}
	at := cellAt(l, 4)
	for _, who := range owners(l) {
		m := scene(l, who, 3, api.Entry{At: at, Old: api.Word{Val: 5, Ver: 2}, New: 9, Write: true})
		ref := uint32(who<<24 + 3)
		for stored, logical := range map[api.Word]api.Word{
			{Val: 5, Ver: 2}:                        {Val: 5, Ver: 2},
			{Val: 5, Ver: math.MaxUint32}:           {Val: 5, Ver: math.MaxUint32},
			{Val: 5, Ver: 2, Ref: ref}:              {Val: 9, Ver: 3},
			{Val: 6, Ver: 7, Ref: ref}:              {Val: 9, Ver: 8},
			{Ref: ref}:                              {Val: 9, Ver: 1},
			{Val: 6, Ver: math.MaxUint32, Ref: ref}: {Val: 9},
			{Val: 5, Ver: 2, Ref: ref + 1}:          {Val: 5, Ver: 2},
			{Val: 5, Ver: 2, Ref: ref - 1}:          {Val: 5, Ver: 2},
			{Val: 5, Ver: 2, Ref: ref ^ 7<<24}:      {Val: 5, Ver: 2},
			{Val: 5, Ver: 2, Ref: 3<<24 + 3}:        {Val: 5, Ver: 2}, // no thread 3
			{Val: 5, Ver: 2, Ref: 8<<24 + 3}:        {Val: 5, Ver: 2},
			{Val: 5, Ver: 2, Ref: 12<<24 + 3}:       {Val: 5, Ver: 2}, // no block 3
			{Val: 5, Ver: 2, Ref: 72<<24 + 3}:       {Val: 5, Ver: 2},
			{Val: 5, Ver: 2, Ref: 73<<24 + 3}:       {Val: 5, Ver: 2}, // no reference
			{Val: 5, Ver: 2, Ref: 3}:                {Val: 5, Ver: 2},
			{Val: 5, Ver: 2, Ref: 1 << 24}:          {Val: 5, Ver: 2},
			{Val: 5, Ver: 2, Ref: math.MaxUint32}:   {Val: 5, Ver: 2},
		} {
			m[at] = stored
			expectLogical(t, l, m, at, logical, api.OK)
		}
	}
}

// P19.3: every location, permitted or not, and images and layouts that are not valid.
func TestLogicalErrors(t *testing.T) {
	r := rand.New(rand.NewSource(13))
	for _, l := range layouts {
		may := places(l)
		m := image(r, l.Size())
		for at := api.Loc(-3); at < api.Loc(l.Size())+3; at++ {
			if _, ok := slices.BinarySearch(may, at); ok {
				expectLogical(t, l, m, at, plainLogical(l, m, at), api.OK)
			} else {
				expectLogical(t, l, m, at, api.Word{}, api.ErrNone)
			}
		}
		for _, at := range []api.Loc{math.MinInt, -1 << 32, 1 << 32, 1<<32 + may[0], math.MaxInt} {
			expectLogical(t, l, m, at, api.Word{}, api.ErrNone)
			expectLogical(t, l, m[1:], at, api.Word{}, api.ErrArg)
		}
		longer := append(image(r, 0), m...)
		longer = append(longer, anyWord(r))
		expectLogical(t, l, longer, may[0], plainLogical(l, m, may[0]), api.OK)
		for _, at := range []api.Loc{0, may[0]} {
			expectLogical(t, l, m[:l.Size()-1], at, api.Word{}, api.ErrArg)
			expectLogical(t, l, nil, at, api.Word{}, api.ErrArg)
			expectLogical(t, l, []api.Word{}, at, api.Word{}, api.ErrArg)
		}
	}
	for _, l := range invalidLayouts {
		for _, at := range []api.Loc{-1, 0, 24, 40, 5000} {
			expectLogical(t, l, make([]api.Word, 4096), at, api.Word{}, api.ErrArg)
		}
	}
}

// anyScene returns an image with a descriptor for most of the owners, some of which have a fault, and with words that
// mostly refer to them.
func anyScene(r *rand.Rand, l layout.Layout) []api.Word {
	m := image(r, l.Size())
	refs := []uint32{0}
	for _, who := range owners(l) {
		d := anyDesc(r, l, who, 1+r.Intn(32))
		if r.Intn(2) == 0 {
			d.Status = desc.Done
		}
		if r.Intn(4) == 0 {
			spoil(r, l, &d)
			_, most := placeOf(l, who)
			d.Entries = d.Entries[:min(len(d.Entries), most)]
		}
		at, _ := placeOf(l, who)
		copy(m[at:], plainWords(d))
		for _, e := range d.Entries {
			if i, ok := slices.BinarySearch(places(l), e.At); ok {
				m[places(l)[i]].Ref = uint32(who<<24 + d.Seq)
			}
		}
		refs = append(refs, uint32(who<<24+d.Seq), uint32(who<<24+d.Seq+1))
	}
	for _, at := range places(l) {
		if r.Intn(4) == 0 {
			m[at].Ref = refs[r.Intn(len(refs))]
		}
	}
	return m
}

// P19.3: random images, against the chapter's definition.
func TestLogicalOfAnything(t *testing.T) {
	r := rand.New(rand.NewSource(14))
	changed := 0
	for range 150 {
		l := layouts[r.Intn(4)]
		m := anyScene(r, l)
		for _, at := range places(l) {
			wanted := plainLogical(l, m, at)
			expectLogical(t, l, m, at, wanted, api.OK)
			if wanted.Ver == m[at].Ver+1 {
				changed++
			}
		}
	}
	if changed < 500 {
		t.Errorf("only %d logical words are not the stored ones", changed)
	}
}

// P19.4: of a descriptor that is not Done no logical word depends; making it Done changes those of its written entries
// that are installed with its reference, and no others.
func TestDeciding(t *testing.T) {
	r := rand.New(rand.NewSource(15))
	decided := 0
	for range 150 {
		l := layouts[r.Intn(4)]
		m := anyScene(r, l)
		who := owners(l)[r.Intn(l.Threads+l.Blocks)]
		d := anyDesc(r, l, who, 1+r.Intn(8))
		d.Status = []int{desc.Open, desc.Failed, desc.Filling}[r.Intn(3)]
		first, _ := placeOf(l, who)
		w, _ := desc.Words(l, d)
		for i := range w {
			m[int(first)+i] = w[i]
		}
		ref := uint32(who<<24 + d.Seq)
		for _, e := range d.Entries {
			m[e.At].Ref = []uint32{0, ref, ref, ref + 1}[r.Intn(4)]
		}
		without, after := slices.Clone(m), slices.Clone(m)
		clear(without[first : int(first)+len(w)])
		after[first] = desc.Status(desc.Done, d.Seq)
		for _, at := range places(l) {
			before, _ := desc.Logical(l, m, at)
			expectLogical(t, l, without, at, before, api.OK)
			i := slices.IndexFunc(d.Entries, func(e api.Entry) bool { return e.At == at && e.Write })
			if i >= 0 && m[at].Ref == ref {
				decided++
				before = api.Word{Val: d.Entries[i].New, Ver: m[at].Ver + 1}
			}
			expectLogical(t, l, after, at, before, api.OK)
		}
	}
	if decided < 50 {
		t.Errorf("only %d words were decided", decided)
	}
}
