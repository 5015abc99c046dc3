package litmus

import "simulcast/api"

// x and y are the addresses of the predefined tests.
const (
	x api.Loc = iota
	y
	places
)

type named struct {
	name    string
	threads [][]api.Act
}

// Named returns the predefined test of that name, or false if there is none.
func Named(name string) (Test, bool) {
	for _, n := range predefined() {
		if n.name == name {
			return Test{make([]api.Word, places), n.threads}, true
		}
	}
	return Test{}, false
}

// Names returns the names of the predefined tests.
func Names() []string {
	var names []string
	for _, n := range predefined() {
		names = append(names, n.name)
	}
	return names
}

// predefined makes the tests anew for each call, since their lists go to callers, who may change them.
func predefined() []named {
	return []named{
		{"store-buffering", [][]api.Act{
			{write(api.Store, x, 1), read(api.Load, y)},
			{write(api.Store, y, 1), read(api.Load, x)}}},
		{"store-looking", [][]api.Act{
			{write(api.Store, x, 1), read(api.Look, y)},
			{write(api.Store, y, 1), read(api.Look, x)}}},
		{"message-plain", [][]api.Act{
			{write(api.Store, x, 1), write(api.Store, y, 1)},
			{read(api.Load, y), read(api.Load, x)}}},
		{"message-passed", [][]api.Act{
			{write(api.Store, x, 1), write(api.Release, y, 1)},
			{read(api.Acquire, y), read(api.Load, x)}}},
		{"load-buffering", [][]api.Act{
			{read(api.Load, x), write(api.Store, y, 1)},
			{read(api.Load, y), write(api.Store, x, 1)}}},
		{"coherence", [][]api.Act{
			{write(api.Store, x, 1), write(api.Store, x, 2)},
			{read(api.Load, x), read(api.Load, x)}}},
		{"far-readers", [][]api.Act{
			{write(api.Release, x, 1)},
			{write(api.Release, y, 1)},
			{read(api.Acquire, x), read(api.Acquire, y)},
			{read(api.Acquire, y), read(api.Acquire, x)}}},
		{"far-lookers", [][]api.Act{
			{write(api.Release, x, 1)},
			{write(api.Release, y, 1)},
			{read(api.Look, x), read(api.Look, y)},
			{read(api.Look, y), read(api.Look, x)}}},
		{"swaps", [][]api.Act{
			{swap(x, 0, 1)},
			{swap(x, 0, 2)}}},
		{"release-sequence", [][]api.Act{
			{write(api.Store, x, 1), write(api.Release, y, 1)},
			{swap(y, 1, 2)},
			{read(api.Acquire, y), read(api.Load, x)}}},
	}
}

func read(op int, at api.Loc) api.Act { return api.Act{Op: op, At: at} }

func write(op int, at api.Loc, v int64) api.Act {
	return api.Act{Op: op, At: at, New: api.Word{Val: v}}
}

func swap(at api.Loc, old, new int64) api.Act {
	return api.Act{Op: api.Swap, At: at, Old: api.Word{Val: old}, New: api.Word{Val: new}}
}
