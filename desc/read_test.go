package desc_test

import (
	"math"
	"math/rand"
	"slices"
	"testing"

	"simulcast/api"
	"simulcast/desc"
	"simulcast/layout"
)

// expectRead checks what Read returns for a valid layout, and that it leaves its argument as it is.
func expectRead(t *testing.T, l layout.Layout, w []api.Word, who int) (desc.Desc, bool) {
	t.Helper()
	wanted, known := plainRead(l, w, who)
	e := api.OK
	if !known {
		e = api.ErrForm
	}
	before := slices.Clone(w)
	d, err := desc.Read(l, w, who)
	if err != e {
		t.Errorf("%+v: Read of %d: %d, wanted %d", l, who, err, e)
	}
	sameDesc(t, "Read", d, wanted)
	same(t, "the image", w, before)
	again, _ := desc.Read(l, w, who)
	clear(d.Entries[:cap(d.Entries)])
	same(t, "the image behind a change of the result", w, before)
	sameDesc(t, "another result of Read", again, wanted)
	return wanted, known
}

// P19.4: Read returns what Words has encoded, of every owner, whatever the words around it are.
func TestReadOfWords(t *testing.T) {
	r := rand.New(rand.NewSource(7))
	for _, l := range layouts {
		for _, who := range owners(l) {
			for _, n := range []int{1, 2, 10, 32} {
				d := anyDesc(r, l, who, n)
				w, e := desc.Words(l, d)
				want(t, "Words", e, api.OK)
				m := image(r, l.Size()+r.Intn(3))
				at, _ := placeOf(l, who)
				copy(m[at:], w)
				got, known := expectRead(t, l, m, who)
				want(t, "an encoding", known, true)
				sameDesc(t, "Read of Words", got, d)
			}
		}
	}
}

// P19.1: images that are too short, and owners that are missing.
func TestReadErrors(t *testing.T) {
	r := rand.New(rand.NewSource(8))
	expect := func(l layout.Layout, w []api.Word, who int, e api.Errno) {
		t.Helper()
		d, err := desc.Read(l, w, who)
		if err != e {
			t.Errorf("%+v: Read of %d in %d words: %d, wanted %d", l, who, len(w), err, e)
		}
		sameDesc(t, "Read", d, desc.Desc{})
	}
	for _, l := range layouts {
		m := l.First()
		for _, who := range owners(l) {
			w, _ := desc.Words(l, anyDesc(r, l, who, 3))
			at, _ := placeOf(l, who)
			copy(m[at:], w)
		}
		for _, who := range owners(l) {
			expectRead(t, l, m, who)
			expect(l, nil, who, api.ErrArg)
			expect(l, []api.Word{}, who, api.ErrArg)
			expect(l, m[:l.Size()-1], who, api.ErrArg)
			expect(l, l.First(), who, api.ErrForm)
			expect(l, make([]api.Word, l.Size()), who, api.ErrForm)
		}
		for _, who := range strangers(l) {
			expect(l, m, who, api.ErrRange)
			expect(l, m[:l.Size()-1], who, api.ErrArg)
		}
	}
	for _, l := range invalidLayouts {
		for _, who := range []int{-1, 0, 1, 9, 99} {
			expect(l, nil, who, api.ErrArg)
			expect(l, make([]api.Word, 5000), who, api.ErrArg)
		}
	}
}

// P19.1: each field of each word of an encoding changed: it is another encoding or none, by the chapter's definition.
func TestReadOfChangedWords(t *testing.T) {
	r := rand.New(rand.NewSource(9))
	l := layout.Layout{Threads: 2, Cells: 50, Blocks: 2}
	kept, lost := 0, 0
	for _, who := range owners(l) {
		for _, n := range []int{1, 2, 9, 10, 31, 32} {
			m, d := image(r, l.Size()), anyDesc(r, l, who, n)
			at, _ := placeOf(l, who)
			w := plainWords(d)
			copy(m[at:], w)
			for i := range w {
				change := func(x api.Word) {
					m[int(at)+i] = x
					if _, ok := expectRead(t, l, m, who); ok {
						kept++
					} else {
						lost++
					}
					m[int(at)+i] = w[i]
				}
				for _, v := range []int64{math.MinInt64, -1, 0, 1, 2, 3, 4, int64(cellAt(l, 0)), 4096, 1 << 32, 1<<32 + w[i].Val, w[i].Val - 1, w[i].Val + 1, math.MaxInt64} {
					change(api.Word{Val: v, Ver: w[i].Ver})
				}
				for _, v := range []uint32{0, 1, 2, 1<<24 - 1, 1 << 24, 1<<24 + w[i].Ver, math.MaxUint32, w[i].Ver - 1, w[i].Ver + 1} {
					change(api.Word{Val: w[i].Val, Ver: v})
				}
				for _, v := range []uint32{1, 1 << 24, 1<<24 + 1, math.MaxUint32} {
					change(api.Word{Val: w[i].Val, Ver: w[i].Ver, Ref: v})
				}
			}
		}
	}
	if kept < 500 || lost < 500 {
		t.Errorf("%d are encodings, %d are none", kept, lost)
	}
}

// P19.1: each number of entries that the count word may tell, with valid entries as far as there is room for them.
func TestReadOfCounts(t *testing.T) {
	r := rand.New(rand.NewSource(10))
	l := layout.Layout{Threads: 2, Cells: 50, Blocks: 2}
	for _, who := range owners(l) {
		at, most := placeOf(l, who)
		m := image(r, l.Size())
		d := desc.Desc{Who: who, Seq: 1, Entries: anyEntries(r, l, 33)}
		copy(m[at:], plainWords(d))
		for n := int64(-3); n < 70; n++ {
			m[at+1].Val = n
			_, ok := expectRead(t, l, m, who)
			want(t, "an encoding", ok, n >= 1 && n <= int64(most))
		}
		for _, n := range []int64{math.MinInt64, -1 << 32, 1 << 32, 1<<32 + 1, 1 << 62, math.MaxInt64} {
			m[at+1].Val = n
			_, err := desc.Read(l, m, who)
			want(t, "Read", err, api.ErrForm)
		}
	}
}

// P19.1: descriptors with faults, encoded by the chapter's definition all the same: none of them fits.
func TestReadOfFaults(t *testing.T) {
	r := rand.New(rand.NewSource(11))
	kept, lost := 0, 0
	for range 10000 {
		l := layouts[r.Intn(len(layouts))]
		who := owners(l)[r.Intn(l.Threads+l.Blocks)]
		at, most := placeOf(l, who)
		d := anyDesc(r, l, who, []int{1, 2, 3, 10, 32}[r.Intn(5)])
		for range 1 + r.Intn(3) {
			spoil(r, l, &d)
		}
		d.Who, d.Entries = who, d.Entries[:min(len(d.Entries), most)]
		m := image(r, l.Size())
		copy(m[at:], plainWords(d))
		if _, ok := expectRead(t, l, m, who); ok {
			kept++
		} else {
			lost++
		}
	}
	if kept < 500 || lost < 500 {
		t.Errorf("%d are encodings, %d are none", kept, lost)
	}
}

// P1: images of random words.
func TestReadOfAnything(t *testing.T) {
	r := rand.New(rand.NewSource(12))
	for range 300 {
		l := layouts[r.Intn(len(layouts))]
		m := image(r, l.Size())
		for _, who := range owners(l) {
			expectRead(t, l, m, who)
		}
	}
}
