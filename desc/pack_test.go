package desc_test

import (
	"math"
	"math/rand"
	"testing"

	"simulcast/api"
	"simulcast/desc"
)

// plainPack gives the words of an entry.
func plainPack(e api.Entry) [3]api.Word {
	var w [3]api.Word
	w[0].Val = int64(e.At)
	if e.Write {
		w[0].Ver = 1
	}
	w[1].Val = e.Old.Val
	w[1].Ver = e.Old.Ver
	w[2].Val = e.New
	return w
}

// plainUnpack gives the entry of three words.
func plainUnpack(w [3]api.Word) (api.Entry, bool) {
	if w[0].Val < 0 || w[0].Val > 4095 || w[0].Ver > 1 || w[0].Ref != 0 || w[1].Ref != 0 || w[2].Ver != 0 || w[2].Ref != 0 {
		return api.Entry{}, false
	}
	return api.Entry{At: api.Loc(w[0].Val), Old: w[1], New: w[2].Val, Write: w[0].Ver == 1}, true
}

func expectUnpack(t *testing.T, w [3]api.Word) {
	t.Helper()
	wanted, known := plainUnpack(w)
	if e, ok := desc.Unpack(w); e != wanted || ok != known {
		t.Errorf("Unpack of %+v: %+v, %v, wanted %+v, %v", w, e, ok, wanted, known)
	}
}

// P19.2: entries of every kind, valid or not, there and back.
func TestPackAndUnpack(t *testing.T) {
	for _, at := range []api.Loc{math.MinInt, -1, 0, 1, 4094, 4095, 4096, 1 << 32, math.MaxInt} {
		for _, old := range []api.Word{{}, {Val: 5, Ver: 2}, {Val: -1, Ver: math.MaxUint32}, {Val: 3, Ref: 1}, {Val: 3, Ver: 1, Ref: 1<<24 + 1}} {
			for _, new := range []int64{0, 5, math.MinInt64, math.MaxInt64} {
				for _, write := range []bool{false, true} {
					e := api.Entry{At: at, Old: old, New: new, Write: write}
					w := desc.Pack(e)
					want(t, "Pack", w, plainPack(e))
					expectUnpack(t, w)
					e.Old.Ref = 0
					if got, ok := desc.Unpack(w); ok && got != e || ok != (at >= 0 && at < 4096) {
						t.Errorf("Unpack of Pack of %+v: %+v, %v", e, got, ok)
					}
				}
			}
		}
	}
}

// P19.2: each field of each word changed.
func TestUnpackOfOtherWords(t *testing.T) {
	for _, e := range []api.Entry{{}, {At: 4095, Old: api.Word{Val: 7, Ver: 3}, New: 8, Write: true}, {At: 9, Old: api.Word{Val: 7, Ver: 3}, New: 7}} {
		for i := range 3 {
			for _, v := range []int64{math.MinInt64, -4096, -1, 0, 1, 4095, 4096, 1 << 32, 1<<32 + 1, math.MaxInt64} {
				w := desc.Pack(e)
				w[i].Val = v
				expectUnpack(t, w)
			}
			for _, n := range []uint32{1, 2, 3, 1 << 24, 1<<24 + 1, math.MaxUint32} {
				w := desc.Pack(e)
				w[i].Ver = n
				expectUnpack(t, w)
				w = desc.Pack(e)
				w[i].Ref = n
				expectUnpack(t, w)
			}
		}
	}
	for _, w := range [][3]api.Word{{}, {{Val: 5, Ver: 2}}, {{Val: -1}}, {{Ref: 1}}, {{}, {Ref: 1}}, {{}, {}, {Ver: 1}}, {{}, {}, {Ref: 1}}} {
		expectUnpack(t, w)
	}
}

// P19.2: random entries and random words.
func TestPackAndUnpackOfAnything(t *testing.T) {
	r := rand.New(rand.NewSource(6))
	unpacked := 0
	for range 50000 {
		e := api.Entry{At: api.Loc(anyValue(r)), Old: anyWord(r), New: anyValue(r), Write: r.Intn(2) == 0}
		want(t, "Pack", desc.Pack(e), plainPack(e))
		w := desc.Pack(e)
		for range r.Intn(3) {
			w[r.Intn(3)] = anyWord(r)
		}
		expectUnpack(t, w)
		if _, ok := desc.Unpack(w); ok {
			unpacked++
			e, _ := desc.Unpack(w)
			want(t, "Pack of Unpack", desc.Pack(e), w)
		}
	}
	if unpacked < 1000 {
		t.Errorf("only %d lists of words are entries", unpacked)
	}
}
