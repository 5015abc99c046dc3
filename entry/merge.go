package entry

import (
	"slices"

	"simulcast/api"
)

// Merge returns b composed after a, sorted by location.
func Merge(a, b []api.Entry) ([]api.Entry, api.Errno) {
	for _, l := range [][]api.Entry{a, b} {
		if err := checkPart(l); err != api.OK {
			return nil, err
		}
	}
	merged := slices.Clone(a)
	for _, next := range b {
		i := find(next.At, a)
		switch {
		case i < 0:
			merged = append(merged, next)
		case next.Old != result(a[i]):
			return nil, api.ErrMatch
		default:
			merged[i] = compose(a[i], next)
		}
	}
	if len(merged) > api.MaxEntries {
		return nil, api.ErrMany
	}
	return Sort(merged...), api.OK
}

// checkPart is Check for a part of a composition, which may be empty.
func checkPart(l []api.Entry) api.Errno {
	if len(l) == 0 {
		return api.OK
	}
	return Check(l...)
}

// result returns the word at the location of e after the swap.
func result(e api.Entry) api.Word {
	if e.Write {
		return api.Word{Val: e.New, Ver: e.Old.Ver + 1}
	}
	return e.Old
}

// compose returns one entry for e and then next at the same location.
func compose(e, next api.Entry) api.Entry {
	return api.Entry{At: e.At, Old: e.Old, New: next.New, Write: e.Write || next.Write}
}
