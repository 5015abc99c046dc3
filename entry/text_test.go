package entry_test

import (
	"fmt"
	"math"
	"math/rand"
	"strings"
	"testing"

	"simulcast/api"
	"simulcast/entry"
)

func expectText(t *testing.T, wanted string, l ...api.Entry) {
	t.Helper()
	if got := call(t, "Text", entry.Text, l...); got != wanted {
		t.Errorf("Text of %v: %q, wanted %q", l, got, wanted)
	}
}

// P17.1: the texts of one entry, valid or not.
func TestText(t *testing.T) {
	expectText(t, "")
	expectText(t, "", []api.Entry{}...)
	expectText(t, "0:0", api.Entry{})
	expectText(t, "0:0=0", api.Entry{Write: true})
	expectText(t, "3:5.2=7", written(3, 5, 2, 7))
	expectText(t, "3:5.2", unwritten(3, 5, 2))
	expectText(t, "1:0=-1", written(1, 0, 0, -1))
	expectText(t, "4095:-5", unwritten(4095, -5, 0))
	expectText(t, "4096:1=1", written(4096, 1, 0, 1))
	expectText(t, "-1:0.1=2", written(-1, 0, 1, 2))
	expectText(t, "2:5", api.Entry{At: 2, Old: api.Word{Val: 5}, New: 6})
	expectText(t, "2:5.4294967295=6", written(2, 5, math.MaxUint32, 6))
	expectText(t, "9223372036854775807:-9223372036854775808.4294967295=9223372036854775807", written(math.MaxInt, math.MinInt64, math.MaxUint32, math.MaxInt64))
	expectText(t, "-9223372036854775808:9223372036854775807=-9223372036854775808", written(math.MinInt, math.MaxInt64, 0, math.MinInt64))
}

// P17.1: an Old that is owned has the text of layer 1, and a malformed one the empty text.
func TestTextOfOwnedWords(t *testing.T) {
	e := written(3, 5, 2, 7)
	e.Old.Ref = 1<<24 + 7
	expectText(t, "3:5.2#1:7=7", e)
	e.Old.Ver, e.Write = 0, false
	expectText(t, "3:5.0#1:7", e)
	e.Old.Ref = 72<<24 + api.MaxSeq
	expectText(t, "3:5.0#72:16777215", e)
	for _, ref := range []uint32{1, 1 << 24, 73<<24 + 1, math.MaxUint32} {
		e.Old.Ref, e.Write = ref, false
		expectText(t, "3:", e)
		e.Write = true
		expectText(t, "3:=7 1:2 3:=7", e, unwritten(1, 2, 0), e)
	}
}

// plainText is the text of an entry without a Ref.
func plainText(e api.Entry) string {
	s := fmt.Sprintf("%d:%d.%d", e.At, e.Old.Val, e.Old.Ver)
	if e.Old.Ver == 0 {
		s = strings.TrimSuffix(s, ".0")
	}
	if e.Write {
		s += fmt.Sprintf("=%d", e.New)
	}
	return s
}

// P17.1: lists in any order, with repeated locations, and longer than a valid one.
func TestTextOfLists(t *testing.T) {
	expectText(t, "1:0=-1 3:5.2=7", written(1, 0, 0, -1), written(3, 5, 2, 7))
	expectText(t, "3:5.2=7 1:0=-1", written(3, 5, 2, 7), written(1, 0, 0, -1))
	expectText(t, "3:5 3:5 3:5", unwritten(3, 5, 0), unwritten(3, 5, 0), unwritten(3, 5, 0))
	r := rand.New(rand.NewSource(5))
	for range 300 {
		l := anyList(r, r.Intn(50))
		var texts []string
		for i := range l {
			l[i].Old.Ref = 0
			texts = append(texts, plainText(l[i]))
		}
		expectText(t, strings.Join(texts, " "), l...)
	}
}
