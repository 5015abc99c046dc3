package word_test

import (
	"math"
	"testing"

	"simulcast/api"
	"simulcast/word"
)

// plainWords and validRefs span the limits of the fields of well-formed words.
var (
	plainWords = []api.Word{
		{},
		{Val: 1},
		{Val: -1},
		{Val: 5, Ver: 2},
		{Val: 10, Ver: 10},
		{Val: math.MaxInt64, Ver: api.MaxVer - 1},
		{Val: math.MinInt64, Ver: api.MaxVer},
		{Ver: 1},
	}
	validRefs = []uint32{
		1<<24 + 1,
		1<<24 + api.MaxSeq,
		1<<24 + 7,
		8<<24 + 1,
		9<<24 + 1<<23,
		72<<24 + 1,
		72<<24 + api.MaxSeq,
	}
	invalidRefs = []uint32{
		1,
		5,
		api.MaxSeq,
		1 << 24,
		2 << 24,
		72 << 24,
		73 << 24,
		73<<24 + 1,
		1<<31 + 1,
		1<<32 - 1,
	}
)

// P1.1: the encoding, for every owner and the limits of the sequence number.
func TestRefEncodesAndWhoDecodes(t *testing.T) {
	for who := 1; who <= 72; who++ {
		for _, seq := range []int{1, 2, 7, 1 << 16, api.MaxSeq - 1, api.MaxSeq} {
			ref, err := word.Ref(who, seq)
			if wanted := uint32(who*(1<<24) + seq); ref != wanted || err != api.OK {
				t.Errorf("Ref(%d, %d) = %d, %d, wanted %d, OK", who, seq, ref, err, wanted)
			}
			if a, b := word.Who(ref); a != who || b != seq {
				t.Errorf("Who(%d) = %d, %d, wanted %d, %d", ref, a, b, who, seq)
			}
		}
	}
	if ref, _ := word.Ref(1, 7); ref != 16777223 {
		t.Errorf("Ref(1, 7) = %d", ref)
	}
}

func TestRefRejectsNumbersOutOfRange(t *testing.T) {
	outside := [][2]int{
		{0, 1}, {-1, 1}, {73, 1}, {256, 1}, {257, 1}, {math.MaxInt, 1}, {math.MinInt, 1}, {1<<32 + 1, 1},
		{1, 0}, {1, -1}, {72, 0}, {1, api.MaxSeq + 1}, {1, math.MaxInt}, {1, math.MinInt}, {1, 1<<32 + 1},
		{0, 0}, {73, api.MaxSeq + 1}, {0, 1<<24 + 1},
	}
	for _, x := range outside {
		if ref, err := word.Ref(x[0], x[1]); ref != 0 || err != api.ErrRange {
			t.Errorf("Ref(%d, %d) = %d, %d, wanted 0, ErrRange", x[0], x[1], ref, err)
		}
	}
}

func TestWhoOfInvalidReference(t *testing.T) {
	for _, ref := range append([]uint32{0}, invalidRefs...) {
		if who, seq := word.Who(ref); who != 0 || seq != 0 {
			t.Errorf("Who(%d) = %d, %d, wanted 0, 0", ref, who, seq)
		}
	}
}

// P1.1: a reference is valid if and only if it encodes an owner and a sequence number in range.
func TestWhoForEveryOwnerByte(t *testing.T) {
	for who := 0; who < 256; who++ {
		for _, seq := range []int{0, 1, api.MaxSeq} {
			a, b := word.Who(uint32(who)<<24 + uint32(seq))
			wantWho, wantSeq := who, seq
			if who < 1 || who > 72 || seq == 0 {
				wantWho, wantSeq = 0, 0
			}
			if a != wantWho || b != wantSeq {
				t.Errorf("Who of %d, %d = %d, %d", who, seq, a, b)
			}
		}
	}
}

// P1.2
func TestPlain(t *testing.T) {
	for _, w := range plainWords {
		if !word.Plain(w) {
			t.Errorf("%+v is not plain", w)
		}
		for _, refs := range [][]uint32{validRefs, invalidRefs} {
			for _, ref := range refs {
				w.Ref = ref
				if word.Plain(w) {
					t.Errorf("%+v is plain", w)
				}
			}
		}
	}
}

func TestInstallSetsTheReference(t *testing.T) {
	for _, w := range plainWords {
		for _, ref := range validRefs {
			got, err := word.Install(w, ref)
			if wanted := (api.Word{Val: w.Val, Ver: w.Ver, Ref: ref}); got != wanted || err != api.OK {
				t.Errorf("Install(%+v, %d) = %+v, %d", w, ref, got, err)
			}
		}
	}
}

func TestInstallErrors(t *testing.T) {
	all := append(append([]uint32{0}, validRefs...), invalidRefs...)
	for _, w := range plainWords {
		for _, ref := range append([]uint32{0}, invalidRefs...) {
			if got, err := word.Install(w, ref); got != w || err != api.ErrRange {
				t.Errorf("Install(%+v, %d) = %+v, %d, wanted the word, ErrRange", w, ref, got, err)
			}
		}
		for _, held := range all[1:] {
			w.Ref = held
			for _, ref := range all {
				if got, err := word.Install(w, ref); got != w || err != api.ErrState {
					t.Errorf("Install(%+v, %d) = %+v, %d, wanted the word, ErrState", w, ref, got, err)
				}
			}
		}
	}
}

func TestRelease(t *testing.T) {
	for _, w := range plainWords {
		for _, ref := range validRefs {
			held := api.Word{Val: w.Val, Ver: w.Ver, Ref: ref}
			for _, v := range []int64{0, 9, -9, math.MinInt64, math.MaxInt64} {
				if got, err := word.Release(held, v, false); got != w || err != api.OK {
					t.Errorf("Release(%+v, %d, false) = %+v, %d", held, v, got, err)
				}
				wanted, wantErr := api.Word{Val: v, Ver: w.Ver + 1}, api.OK
				if w.Ver == api.MaxVer {
					wanted, wantErr = held, api.ErrFull
				}
				if got, err := word.Release(held, v, true); got != wanted || err != wantErr {
					t.Errorf("Release(%+v, %d, true) = %+v, %d", held, v, got, err)
				}
			}
		}
	}
}

func TestReleaseOfWordThatIsNotInstalled(t *testing.T) {
	for _, w := range plainWords {
		for _, ref := range append([]uint32{0}, invalidRefs...) {
			w.Ref = ref
			for _, write := range []bool{false, true} {
				if got, err := word.Release(w, 9, write); got != w || err != api.ErrState {
					t.Errorf("Release(%+v, 9, %v) = %+v, %d, wanted the word, ErrState", w, write, got, err)
				}
			}
		}
	}
}

// P1.4: what follows from P1.2.
func TestInstallAndReleaseAgain(t *testing.T) {
	for _, w := range plainWords {
		for _, ref := range validRefs {
			held, _ := word.Install(w, ref)
			if back, err := word.Release(held, 9, false); back != w || err != api.OK {
				t.Errorf("%+v comes back as %+v, %d", w, back, err)
			}
			next, err := word.Release(held, 9, true)
			if w.Ver != api.MaxVer && (err != api.OK || next.Ver <= w.Ver || !word.Plain(next)) {
				t.Errorf("%+v written is %+v, %d", w, next, err)
			}
		}
	}
}
