package word

import (
	"strconv"
	"strings"

	"simulcast/api"
)

// Text returns the text form of w, or the empty string if w is malformed.
func Text(w api.Word) string {
	k := kind(w)
	if k == malformed {
		return ""
	}
	s := strconv.FormatInt(w.Val, 10)
	if w.Ver != 0 || k == installed {
		s += "." + strconv.FormatUint(uint64(w.Ver), 10)
	}
	if k == installed {
		who, seq := Who(w.Ref)
		s += "#" + strconv.Itoa(who) + ":" + strconv.Itoa(seq)
	}
	return s
}

// Parse returns the word whose text form is s.
func Parse(s string) (api.Word, api.Errno) {
	w, ok := read(s)
	// A number has several spellings that strconv takes ("+1", "01", "-0"), and a version of 0 may be left out or not:
	// the one text form is the one that Text writes.
	if !ok || Text(w) != s {
		return api.Word{}, api.ErrForm
	}
	return w, api.OK
}

// read takes the parts of a text form off s one after another; it takes other spellings of numbers, too.
func read(s string) (api.Word, bool) {
	var w api.Word
	var who, seq int
	rest, ok := part(s, "", func(number string) bool {
		v, err := strconv.ParseInt(number, 10, 64)
		w.Val = v
		return err == nil
	})
	if !ok || rest == "" {
		return w, ok
	}
	rest, ok = part(rest, ".", func(number string) bool {
		v, err := strconv.ParseUint(number, 10, 32)
		w.Ver = uint32(v)
		return err == nil
	})
	if !ok || rest == "" {
		return w, ok
	}
	rest, ok = part(rest, "#", small(&who))
	if !ok {
		return w, false
	}
	rest, ok = part(rest, ":", small(&seq))
	if !ok || rest != "" {
		return w, false
	}
	ref, err := Ref(who, seq)
	w.Ref = ref
	return w, err == api.OK
}

// part takes mark and the number behind it off the front of s, passes the number to set, and returns the rest of s.
func part(s, mark string, set func(number string) bool) (string, bool) {
	s, ok := strings.CutPrefix(s, mark)
	if !ok {
		return "", false
	}
	end := strings.IndexAny(s, ".#:")
	if end < 0 {
		end = len(s)
	}
	return s[end:], set(s[:end])
}

// small returns the function that sets n to a number of a reference.
func small(n *int) func(number string) bool {
	return func(number string) bool {
		v, err := strconv.ParseInt(number, 10, 32)
		*n = int(v)
		return err == nil
	}
}
