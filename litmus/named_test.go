package litmus_test

import (
	"reflect"
	"slices"
	"strconv"
	"strings"
	"testing"

	"simulcast/api"
	"simulcast/litmus"
)

// table is the chapter's, as it stands there.
const table = `
store-buffering | Store x 1, Load y | Store y 1, Load x
store-looking | Store x 1, Look y | Store y 1, Look x
message-plain | Store x 1, Store y 1 | Load y, Load x
message-passed | Store x 1, Release y 1 | Acquire y, Load x
load-buffering | Load x, Store y 1 | Load y, Store x 1
coherence | Store x 1, Store x 2 | Load x, Load x
far-readers | Release x 1 | Release y 1 | Acquire x, Acquire y | Acquire y, Acquire x
far-lookers | Release x 1 | Release y 1 | Look x, Look y | Look y, Look x
swaps | Swap x 0 1 | Swap x 0 2
release-sequence | Store x 1, Release y 1 | Swap y 1 2 | Acquire y, Load x
`

// parseAct reads an act as the table writes it.
func parseAct(t *testing.T, s string) api.Act {
	t.Helper()
	ops := map[string]int{"Load": api.Load, "Acquire": api.Acquire, "Store": api.Store, "Release": api.Release, "Look": api.Look, "Swap": api.Swap}
	parts := strings.Fields(s)
	a := api.Act{Op: ops[parts[0]], At: api.Loc(strings.Index("xy", parts[1]))}
	var numbers []int64
	for _, p := range parts[2:] {
		n, err := strconv.ParseInt(p, 10, 64)
		if err != nil {
			t.Fatal(err)
		}
		numbers = append(numbers, n)
	}
	if len(numbers) > 0 {
		a.New = val(numbers[len(numbers)-1])
	}
	if len(numbers) > 1 {
		a.Old = val(numbers[0])
	}
	return a
}

// parseTable returns the names of the table in order, and its tests.
func parseTable(t *testing.T) ([]string, map[string]litmus.Test) {
	t.Helper()
	var names []string
	tests := map[string]litmus.Test{}
	for _, row := range strings.Split(strings.TrimSpace(table), "\n") {
		parts := strings.Split(row, " | ")
		x := litmus.Test{First: words(2)}
		for _, p := range parts[1:] {
			var l []api.Act
			for _, s := range strings.Split(p, ", ") {
				l = append(l, parseAct(t, s))
			}
			x.Threads = append(x.Threads, l)
		}
		names, tests[parts[0]] = append(names, parts[0]), x
	}
	return names, tests
}

// P9.3: the names in order, and each test.
func TestNamed(t *testing.T) {
	names, tests := parseTable(t)
	if got := litmus.Names(); !slices.Equal(got, names) {
		t.Errorf("Names %q, wanted %q", got, names)
	}
	for s, wanted := range tests {
		got := name(t, s)
		if !reflect.DeepEqual(got, wanted) || got.Check() != api.OK {
			t.Errorf("%s: %+v, Check %d, wanted %+v", s, got, got.Check(), wanted)
		}
	}
}

// P9.3: other names.
func TestUnknownName(t *testing.T) {
	for _, s := range []string{"", " ", "none", "swap", "swaps ", " swaps", "Swaps", "coherence\n", "far", "store-buffering|", "\xff", strings.Repeat("swaps", 1000)} {
		if x, ok := litmus.Named(s); ok || x.First != nil || x.Threads != nil {
			t.Errorf("Named(%q): %+v, %v", s, x, ok)
		}
	}
}

// P9.3: whoever changes a returned test or list changes nothing else.
func TestNamedIsNew(t *testing.T) {
	names, tests := parseTable(t)
	for s := range tests {
		x := name(t, s)
		other := name(t, s)
		for i, l := range x.Threads {
			for k := range l {
				l[k] = act(api.Sync, 77)
			}
			_ = append(l, act(api.Look, 5))
			x.Threads[i] = l[:0]
		}
		for i := range x.First {
			x.First[i] = val(9)
		}
		if again := name(t, s); !reflect.DeepEqual(again, tests[s]) || !reflect.DeepEqual(other, tests[s]) {
			t.Errorf("%s has changed: %+v", s, again)
		}
	}
	l := litmus.Names()
	for i := range l {
		l[i] = "changed"
	}
	if got := litmus.Names(); !slices.Equal(got, names) {
		t.Errorf("Names have changed: %q", got)
	}
}
