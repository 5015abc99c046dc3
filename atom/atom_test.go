package atom_test

import (
	"math"
	"math/big"
	"testing"

	"simulcast/api"
	"simulcast/atom"
	"simulcast/task"
)

var (
	values = []int64{math.MinInt64, math.MinInt64 + 1, -7, -1, 0, 1, 2, 5, 1 << 40, math.MaxInt64 - 1, math.MaxInt64}
	places = []api.Loc{0, 1, 7, api.MaxLocs - 1}

	badKinds  = []int{math.MinInt, -1, 4, 5, 256, math.MaxInt}
	badPlaces = []api.Loc{math.MinInt, -1, api.MaxLocs, api.MaxLocs + 1, math.MaxInt}
)

// expectInvalid checks that an operation is rejected everywhere with the same error.
func expectInvalid(t *testing.T, o atom.Op, wanted api.Errno) {
	t.Helper()
	if e := o.Check(); e != wanted {
		t.Errorf("Check of %+v: %d, wanted %d", o, e, wanted)
	}
	if c, e := atom.New(o); c != nil || e != wanted {
		t.Errorf("New(%+v): %v, %d, wanted %d", o, c, e, wanted)
	}
	for _, v := range values {
		if n, result := atom.Do(o, v); n != v || result != 0 {
			t.Errorf("Do(%+v, %d): %d, %d", o, v, n, result)
		}
	}
}

// P10.1, P10.2 and the errors: valid operations.
func TestValid(t *testing.T) {
	for kind := atom.Add; kind <= atom.Claim; kind++ {
		for _, at := range places {
			for _, n := range values {
				o := atom.Op{Kind: kind, At: at, N: n}
				if kind == atom.Claim && n == 0 {
					expectInvalid(t, o, api.ErrValue)
					continue
				}
				if e := o.Check(); e != api.OK {
					t.Errorf("Check of %+v: %d", o, e)
				}
				if c, e := atom.New(o); c == nil || e != api.OK {
					t.Errorf("New(%+v): %v, %d", o, c, e)
				}
			}
		}
	}
}

// The errors, and which comes first.
func TestInvalid(t *testing.T) {
	for _, kind := range badKinds {
		for _, at := range append(badPlaces, places...) {
			for _, n := range []int64{0, 1} {
				expectInvalid(t, atom.Op{Kind: kind, At: at, N: n}, api.ErrKind)
			}
		}
	}
	for kind := atom.Add; kind <= atom.Claim; kind++ {
		for _, at := range badPlaces {
			for _, n := range []int64{0, 1} {
				expectInvalid(t, atom.Op{Kind: kind, At: at, N: n}, api.ErrRange)
			}
		}
	}
}

// wrapped returns a sum modulo 2^64 by its definition.
func wrapped(a, b int64) int64 {
	sum := new(big.Int).Add(big.NewInt(a), big.NewInt(b))
	sum.Mod(sum, new(big.Int).Lsh(big.NewInt(1), 64))
	return int64(sum.Uint64())
}

// expected is the chapter's table of kinds.
func expected(o atom.Op, v int64) int64 {
	switch {
	case o.Kind == atom.Add:
		return wrapped(v, o.N)
	case o.Kind == atom.Most && v > o.N, o.Kind == atom.Claim && v != 0:
		return v
	}
	return o.N
}

// P10.1: Do for every kind; sums that wrap, claims of 0 and of other values, new values that equal the old one.
func TestDo(t *testing.T) {
	for kind := atom.Add; kind <= atom.Claim; kind++ {
		for _, n := range values {
			for _, v := range values {
				o := atom.Op{Kind: kind, At: 3, N: n}
				if o.Check() != api.OK {
					continue
				}
				if next, result := atom.Do(o, v); next != expected(o, v) || result != v {
					t.Errorf("Do(%+v, %d): %d, %d, wanted %d, %d", o, v, next, result, expected(o, v), v)
				}
			}
		}
	}
	for _, x := range []struct {
		op      atom.Op
		v, next int64
	}{
		{atom.Op{Kind: 0, N: 3}, 5, 8}, {atom.Op{Kind: 0, N: 1}, math.MaxInt64, math.MinInt64}, {atom.Op{Kind: 0, N: -1}, math.MinInt64, math.MaxInt64},
		{atom.Op{Kind: 0, N: math.MinInt64}, math.MinInt64, 0}, {atom.Op{Kind: 1, N: 7}, 8, 8}, {atom.Op{Kind: 1, N: 9}, 8, 9}, {atom.Op{Kind: 1, N: -9}, -10, -9},
		{atom.Op{Kind: 2, N: 0}, 8, 0}, {atom.Op{Kind: 3, N: 4}, 8, 8}, {atom.Op{Kind: 3, N: 4}, 0, 4}, {atom.Op{Kind: 3, N: -4}, 0, -4}, {atom.Op{Kind: 3, N: 4}, -1, -1},
	} {
		if next, result := atom.Do(x.op, x.v); next != x.next || result != x.v {
			t.Errorf("Do(%+v, %d): %d, %d, wanted %d", x.op, x.v, next, result, x.next)
		}
	}
}

// foreign is a code of another package; wrapper is one that has a code of package atom inside.
type foreign struct{ finished bool }

func (f foreign) Next(api.Got) (task.Code, api.Act, bool) { return f, api.Act{}, f.finished }

type pointed struct{ finished bool }

func (p *pointed) Next(api.Got) (task.Code, api.Act, bool) { return p, api.Act{}, p.finished }

type wrapper struct{ task.Code }

// P10.2, P10.3: Answer and Tries of codes that are not of package atom.
func TestOtherCodes(t *testing.T) {
	c, _ := atom.New(atom.Op{Kind: atom.Put, N: 5})
	_, got := drive(c, api.Word{Val: 5})
	if a, ok := atom.Answer(got); a != 5 || !ok {
		t.Fatalf("a finished code: %d, %v", a, ok)
	}
	var none *pointed
	for what, x := range map[string]task.Code{
		"nil": nil, "foreign": foreign{}, "foreign, finished": foreign{true}, "pointer": &pointed{true}, "nil pointer": none,
		"fresh, inside another": wrapper{c}, "finished, inside another": wrapper{got}, "nothing inside another": wrapper{},
	} {
		if a, ok := atom.Answer(x); a != 0 || ok {
			t.Errorf("%s: Answer %d, %v", what, a, ok)
		}
		if n := atom.Tries(x); n != 0 {
			t.Errorf("%s: Tries %d", what, n)
		}
	}
}
