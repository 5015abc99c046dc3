// Package word is layer 1: tagged memory words, the references they hold and their text form.
package word

import (
	"simulcast/api"
)

// seqBits is the width of the sequence number in a reference; the owner stands above it.
const seqBits = 24

// maxWho is the last owner: the threads' descriptor slots come first, then the arena's blocks.
const maxWho = api.MaxThreads + api.MaxBlocks

// Kinds of words.
const (
	plain = iota
	installed
	malformed
)

// Ref encodes a reference to the swap seq of the owner who.
func Ref(who, seq int) (uint32, api.Errno) {
	if who < 1 || who > maxWho {
		return 0, api.ErrRange
	}
	if seq < 1 || seq > api.MaxSeq {
		return 0, api.ErrRange
	}
	return uint32(who)<<seqBits + uint32(seq), api.OK
}

// Who decodes a reference into owner and sequence number, or 0, 0 if it is invalid.
func Who(ref uint32) (int, int) {
	who, seq := int(ref>>seqBits), int(ref&api.MaxSeq)
	if _, err := Ref(who, seq); err != api.OK {
		return 0, 0
	}
	return who, seq
}

// Plain reports whether no swap owns w.
func Plain(w api.Word) bool { return kind(w) == plain }

// Install returns w owned by the swap ref.
func Install(w api.Word, ref uint32) (api.Word, api.Errno) {
	if kind(w) != plain {
		return w, api.ErrState
	}
	if !valid(ref) {
		return w, api.ErrRange
	}
	w.Ref = ref
	return w, api.OK
}

// Release returns w without its owner: with value v and the next version if write is set, otherwise as it was before it was installed.
func Release(w api.Word, v int64, write bool) (api.Word, api.Errno) {
	if kind(w) != installed {
		return w, api.ErrState
	}
	if !write {
		return api.Word{Val: w.Val, Ver: w.Ver}, api.OK
	}
	if w.Ver == api.MaxVer {
		return w, api.ErrFull
	}
	return api.Word{Val: v, Ver: w.Ver + 1}, api.OK
}

func kind(w api.Word) int {
	switch {
	case w.Ref == 0:
		return plain
	case valid(w.Ref):
		return installed
	}
	return malformed
}

func valid(ref uint32) bool {
	who, _ := Who(ref)
	return who != 0
}
