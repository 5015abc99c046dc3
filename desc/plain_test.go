package desc_test

import (
	"math"
	"math/rand"
	"slices"
	"testing"

	"simulcast/api"
	"simulcast/desc"
	"simulcast/layout"
)

// want reports a difference.
func want[T comparable](t *testing.T, what string, got, wanted T) {
	t.Helper()
	if got != wanted {
		t.Errorf("%s: %v, wanted %v", what, got, wanted)
	}
}

// same reports a difference between lists.
func same[T comparable](t *testing.T, what string, got, wanted []T) {
	t.Helper()
	if !slices.Equal(got, wanted) {
		t.Errorf("%s: %v, wanted %v", what, got, wanted)
	}
}

func sameDesc(t *testing.T, what string, got, wanted desc.Desc) {
	t.Helper()
	if got.Who != wanted.Who || got.Seq != wanted.Seq || got.Status != wanted.Status || !slices.Equal(got.Entries, wanted.Entries) {
		t.Errorf("%s: %+v, wanted %+v", what, got, wanted)
	}
}

var (
	layouts = []layout.Layout{
		{Threads: 1, Cells: 1}, {Threads: 2, Cells: 8, Blocks: 1}, {Threads: 1, Cells: 40, Blocks: 2}, {Threads: 3, Cells: 50, Blocks: 33},
		{Threads: 8, Cells: 33}, {Threads: 8, Cells: 1072, Blocks: 64}, {Threads: 1, Cells: 2048, Blocks: 3},
	}
	invalidLayouts = []layout.Layout{
		{}, {Threads: 0, Cells: 8, Blocks: 1}, {Threads: 9, Cells: 8, Blocks: 1}, {Threads: -1, Cells: 8}, {Threads: 2, Cells: 0, Blocks: 1},
		{Threads: 2, Cells: 2049}, {Threads: 2, Cells: 8, Blocks: -1}, {Threads: 2, Cells: 8, Blocks: 65}, {Threads: 8, Cells: 2048, Blocks: 64},
		{Threads: 1, Cells: 1913, Blocks: 64}, {Threads: math.MaxInt, Cells: math.MaxInt, Blocks: math.MaxInt},
	}
)

// owners returns the owners of a layout.
func owners(l layout.Layout) []int {
	var all []int
	for t := 1; t <= l.Threads; t++ {
		all = append(all, t)
	}
	for i := range l.Blocks {
		all = append(all, 9+i)
	}
	return all
}

// strangers returns numbers that are no owners of a layout: those below, between and above its slots and blocks.
func strangers(l layout.Layout) []int {
	all := []int{math.MinInt, math.MinInt + 9, -9, -1, 0, 73, 74, 1 << 24, 1<<24 + 1, 1 << 32, 1<<32 + 1, 1<<32 + 9, 1 << 59, math.MaxInt - 8, math.MaxInt}
	for who := 1; who <= 72; who++ {
		if !slices.Contains(owners(l), who) {
			all = append(all, who)
		}
	}
	return all
}

// cellAt, recordAt and placeOf give the locations of a layout by the chapter of layout.
func cellAt(l layout.Layout, i int) api.Loc { return api.Loc(8 + 16*l.Threads + i) }

func recordAt(l layout.Layout, thread, i int) api.Loc {
	return api.Loc(8 + 8*l.Threads + 8*(thread-1) + i)
}

func placeOf(l layout.Layout, who int) (api.Loc, int) {
	slots := cellAt(l, (l.Cells+7)/8*8)
	if who <= 8 {
		return slots + api.Loc(104*(who-1)), 32
	}
	return slots + api.Loc(104*l.Threads+8+32*(who-9)), 10
}

// places returns the locations that a swap may change, in order.
func places(l layout.Layout) []api.Loc {
	var all []api.Loc
	for t := 1; t <= l.Threads; t++ {
		all = append(all, recordAt(l, t, 0), recordAt(l, t, 1), recordAt(l, t, 2))
	}
	for i := range l.Cells {
		all = append(all, cellAt(l, i))
	}
	return all
}

// plainError gives the error of Words as the chapter lists them.
func plainError(l layout.Layout, d desc.Desc) api.Errno {
	switch {
	case slices.Contains(invalidLayouts, l):
		return api.ErrArg
	case !slices.Contains(owners(l), d.Who):
		return api.ErrRange
	case d.Seq < 1 || d.Seq > 1<<24-1:
		return api.ErrRange
	case d.Status != 0 && d.Status != 1 && d.Status != 2 && d.Status != 3:
		return api.ErrKind
	}
	if e := plainCheck(d.Entries); e != api.OK {
		return e
	}
	may := places(l)
	order, none := false, false
	for i, e := range d.Entries {
		order = order || i > 0 && d.Entries[i-1].At >= e.At
		none = none || !slices.Contains(may, e.At)
	}
	switch {
	case order:
		return api.ErrOrder
	case none:
		return api.ErrNone
	case d.Who > 8 && len(d.Entries) > 10:
		return api.ErrMany
	}
	return api.OK
}

// plainCheck gives the error of entry.Check, by the chapter of entry.
func plainCheck(l []api.Entry) api.Errno {
	if len(l) == 0 {
		return api.ErrEmpty
	}
	if len(l) > 32 {
		return api.ErrMany
	}
	seen := map[api.Loc]bool{}
	for _, e := range l {
		switch {
		case e.At < 0 || e.At > 4095:
			return api.ErrRange
		case e.Old.Ref != 0:
			return api.ErrState
		case e.Write && e.Old.Ver == math.MaxUint32:
			return api.ErrFull
		case !e.Write && e.New != e.Old.Val:
			return api.ErrValue
		case seen[e.At]:
			return api.ErrTwice
		}
		seen[e.At] = true
	}
	return api.OK
}

// plainWords gives the encoding of a descriptor.
func plainWords(d desc.Desc) []api.Word {
	w := make([]api.Word, 2+3*len(d.Entries))
	w[0].Val, w[0].Ver = int64(d.Status), uint32(d.Seq)
	w[1].Val = int64(len(d.Entries))
	for i, e := range d.Entries {
		w[2+3*i].Val = int64(e.At)
		if e.Write {
			w[2+3*i].Ver = 1
		}
		w[3+3*i].Val, w[3+3*i].Ver = e.Old.Val, e.Old.Ver
		w[4+3*i].Val = e.New
	}
	return w
}

// plainRead gives the descriptor of an owner, or false if the image does not hold the encoding of one that fits.
func plainRead(l layout.Layout, w []api.Word, who int) (desc.Desc, bool) {
	at, most := placeOf(l, who)
	if w[at].Ref != 0 || w[at+1].Ver != 0 || w[at+1].Ref != 0 || w[at+1].Val < 0 || w[at+1].Val > int64(most) {
		return desc.Desc{}, false
	}
	if w[at].Val < 0 || w[at].Val > 3 {
		return desc.Desc{}, false
	}
	d := desc.Desc{Who: who, Seq: int(w[at].Ver), Status: int(w[at].Val)}
	for i := range api.Loc(w[at+1].Val) {
		a, b, c := w[at+2+3*i], w[at+3+3*i], w[at+4+3*i]
		if a.Ver > 1 || a.Ref != 0 || b.Ref != 0 || c.Ver != 0 || c.Ref != 0 {
			return desc.Desc{}, false
		}
		d.Entries = append(d.Entries, api.Entry{At: api.Loc(a.Val), Old: b, New: c.Val, Write: a.Ver == 1})
	}
	if plainError(l, d) != api.OK {
		return desc.Desc{}, false
	}
	return d, true
}

// plainLogical gives the logical word of a permitted location.
func plainLogical(l layout.Layout, w []api.Word, at api.Loc) api.Word {
	x := w[at]
	who, seq := int(x.Ref>>24), int(x.Ref&0xffffff)
	if slices.Contains(owners(l), who) {
		if d, ok := plainRead(l, w, who); ok && d.Seq == seq && d.Status == 1 {
			for _, e := range d.Entries {
				if e.At == at && e.Write {
					return api.Word{Val: e.New, Ver: x.Ver + 1}
				}
			}
		}
	}
	return api.Word{Val: x.Val, Ver: x.Ver}
}

var values = []int64{0, 1, -1, 2, 3, 10, 4095, 1 << 32, math.MaxInt64, math.MinInt64}

func anyValue(r *rand.Rand) int64 {
	if r.Intn(3) == 0 {
		return int64(r.Uint64())
	}
	return values[r.Intn(len(values))]
}

func anyVersion(r *rand.Rand) uint32 {
	return []uint32{0, 1, 2, 77, math.MaxUint32 - 1, math.MaxUint32, r.Uint32()}[r.Intn(7)]
}

func anyWord(r *rand.Rand) api.Word {
	return api.Word{Val: anyValue(r), Ver: anyVersion(r), Ref: anyVersion(r)}
}

// anyEntries returns n valid entries, or as many as there are locations, at random locations in order.
func anyEntries(r *rand.Rand, l layout.Layout, n int) []api.Entry {
	at := places(l)
	r.Shuffle(len(at), func(i, j int) { at[i], at[j] = at[j], at[i] })
	at = at[:min(n, len(at))]
	slices.Sort(at)
	var list []api.Entry
	for _, a := range at {
		e := api.Entry{At: a, Old: api.Word{Val: anyValue(r), Ver: anyVersion(r)}}
		e.New = e.Old.Val
		if r.Intn(2) == 0 && e.Old.Ver < math.MaxUint32 {
			e.Write, e.New = true, anyValue(r)
		}
		list = append(list, e)
	}
	return list
}

// anyDesc returns a descriptor that fits the layout, with n entries if there is room for them.
func anyDesc(r *rand.Rand, l layout.Layout, who, n int) desc.Desc {
	_, most := placeOf(l, who)
	seq := []int{1, 2, 7, 1 << 23, 1<<24 - 1, 1 + r.Intn(1<<24-1)}[r.Intn(6)]
	return desc.Desc{Who: who, Seq: seq, Status: r.Intn(4), Entries: anyEntries(r, l, min(n, most))}
}

func copied(d desc.Desc) desc.Desc {
	d.Entries = slices.Clone(d.Entries)
	return d
}

// image returns a memory image of random words.
func image(r *rand.Rand, n int) []api.Word {
	w := make([]api.Word, n)
	for i := range w {
		w[i] = anyWord(r)
	}
	return w
}
