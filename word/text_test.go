package word_test

import (
	"math"
	"math/big"
	"regexp"
	"strings"
	"testing"

	"simulcast/api"
	"simulcast/word"
)

// P1.3: words and their text forms.
var texts = []struct {
	text string
	word api.Word
}{
	{"0", api.Word{}},
	{"7", api.Word{Val: 7}},
	{"-5", api.Word{Val: -5}},
	{"100", api.Word{Val: 100}},
	{"0.1", api.Word{Ver: 1}},
	{"5.2", api.Word{Val: 5, Ver: 2}},
	{"-10.20", api.Word{Val: -10, Ver: 20}},
	{"5.2#1:7", api.Word{Val: 5, Ver: 2, Ref: 16777223}},
	{"0.0#1:1", api.Word{Ref: 1<<24 + 1}},
	{"7.0#72:16777215", api.Word{Val: 7, Ref: 72<<24 + api.MaxSeq}},
	{"-1.1#9:10", api.Word{Val: -1, Ver: 1, Ref: 9<<24 + 10}},
	{"9223372036854775807.4294967295", api.Word{Val: math.MaxInt64, Ver: api.MaxVer}},
	{"-9223372036854775808.4294967295#8:2", api.Word{Val: math.MinInt64, Ver: api.MaxVer, Ref: 8<<24 + 2}},
}

func TestTextForms(t *testing.T) {
	for _, x := range texts {
		if got := word.Text(x.word); got != x.text {
			t.Errorf("Text(%+v) = %q, wanted %q", x.word, got, x.text)
		}
		if got, err := word.Parse(x.text); got != x.word || err != api.OK {
			t.Errorf("Parse(%q) = %+v, %d, wanted %+v, OK", x.text, got, err, x.word)
		}
	}
}

func TestTextOfMalformedWord(t *testing.T) {
	for _, w := range plainWords {
		for _, ref := range invalidRefs {
			w.Ref = ref
			if got := word.Text(w); got != "" {
				t.Errorf("Text(%+v) = %q, wanted nothing", w, got)
			}
		}
	}
}

func TestParseRejectsOtherStrings(t *testing.T) {
	bad := []string{
		"", "-", "+1", "-0", "00", "01", "-01", "--1", "1-", "1_0", "0x1", "1e3", "a", " 1", "1 ", "1\n", "\x00", "\xff", "٣",
		"9223372036854775808", "-9223372036854775809", strings.Repeat("9", 100), strings.Repeat("0", 100),
		".", ".1", "1.", "1.0", "1.00", "1.01", "1.-1", "1.+1", "1. 1", "1.4294967296", "1..1", "1.1.1", "1.a", "-0.1",
		"#", "1#1:1", "1.#1:1", "1.1#", "1.1#1", "1.1#1:", "1.1#:1", "1.1#:", "1.1:1", "1.1#1#1", "1.1#1.1", "1.1##1:1", "1.1#1::1", "1:1",
		"1.1#0:1", "1.1#1:0", "1.1#73:1", "1.1#1:16777216", "1.1#01:1", "1.1#1:01", "1.1#-1:1", "1.1#1:-1", "1.1#+1:1", "1.1#1:+1",
		"1.1#1:1 ", "1.1#1:1:1", "1.1#1:1#", "1.1#1:1.", "1.1#4294967297:1", "1.1#1:4294967297", "1.1#18446744073709551617:1",
		"1.00#1:1", "01.1#1:1", "1.01#1:1", "-0.0#1:1",
	}
	for _, s := range bad {
		if got, err := word.Parse(s); got != (api.Word{}) || err != api.ErrForm {
			t.Errorf("Parse(%q) = %+v, %d, wanted the zero word, ErrForm", s, got, err)
		}
	}
}

// P1.4: what follows from P1.3.
func TestParseOfText(t *testing.T) {
	for _, w := range plainWords {
		for _, ref := range append([]uint32{0}, validRefs...) {
			w.Ref = ref
			if got, err := word.Parse(word.Text(w)); got != w || err != api.OK {
				t.Errorf("Parse(Text(%+v)) = %+v, %d", w, got, err)
			}
		}
	}
}

var form = regexp.MustCompile(`^(0|-?[1-9][0-9]*)(?:\.(0|[1-9][0-9]*)(?:#([1-9][0-9]*):([1-9][0-9]*))?)?$`)

// isTextForm decides by the definition whether s is the text form of a word.
func isTextForm(s string) bool {
	m := form.FindStringSubmatch(s)
	if m == nil {
		return false
	}
	if !within(m[1], math.MinInt64, math.MaxInt64) {
		return false
	}
	if m[3] == "" {
		return m[2] == "" || within(m[2], 1, api.MaxVer)
	}
	return within(m[2], 0, api.MaxVer) && within(m[3], 1, 72) && within(m[4], 1, api.MaxSeq)
}

func within(number string, least, most int64) bool {
	n, _ := new(big.Int).SetString(number, 10)
	return n.Cmp(big.NewInt(least)) >= 0 && n.Cmp(big.NewInt(most)) <= 0
}

func checkParse(t *testing.T, s string) {
	t.Helper()
	w, err := word.Parse(s)
	switch {
	case isTextForm(s) && (err != api.OK || word.Text(w) != s):
		t.Errorf("Parse(%q) = %+v, %d: it is the text form of a word", s, w, err)
	case !isTextForm(s) && (err != api.ErrForm || w != api.Word{}):
		t.Errorf("Parse(%q) = %+v, %d: it is no text form", s, w, err)
	}
}

// P1.3, P1.4: every short string of the signs that matter.
func TestParseOfAllShortStrings(t *testing.T) {
	var grow func(s string, more int)
	grow = func(s string, more int) {
		checkParse(t, s)
		if more == 0 || t.Failed() {
			return
		}
		for _, sign := range []string{"0", "1", "-", ".", "#", ":"} {
			grow(s+sign, more-1)
		}
	}
	grow("", 7)
}

// P1.3, P1.4: every text form with one sign changed, taken out or put in.
func TestParseOfChangedTextForms(t *testing.T) {
	for _, x := range texts {
		for i := 0; i <= len(x.text); i++ {
			for _, sign := range []string{"", "0", "1", "9", "-", "+", ".", "#", ":", " ", "_"} {
				checkParse(t, x.text[:i]+sign+x.text[i:])
				if i < len(x.text) {
					checkParse(t, x.text[:i]+sign+x.text[i+1:])
				}
			}
		}
	}
}

// The example of the chapter.
func TestExample(t *testing.T) {
	ref, _ := word.Ref(1, 7)
	held, _ := word.Install(api.Word{Val: 5, Ver: 2}, ref)
	written, _ := word.Release(held, 9, true)
	kept, _ := word.Release(held, 9, false)
	got := []string{word.Text(held), word.Text(written), word.Text(kept)}
	for i, wanted := range []string{"5.2#1:7", "9.3", "5.2"} {
		if got[i] != wanted {
			t.Errorf("%q, wanted %q", got[i], wanted)
		}
	}
}
