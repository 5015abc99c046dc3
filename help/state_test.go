package help_test

import (
	"math/rand"
	"slices"
	"testing"

	"simulcast/api"
	"simulcast/arena"
	"simulcast/atom"
	"simulcast/help"
	"simulcast/layout"
	"simulcast/task"
)

// other is a code of no layer.
type other struct{ status int }

func (o *other) Next(api.Got) (task.Code, api.Act, bool) { return o, api.Act{}, true }

// P20.1: Status and Depth of no code, of codes of others, done or not, and of a help that has not begun.
func TestOtherCodes(t *testing.T) {
	expectState(t, "no code", nil, 0, false, 0)
	expectState(t, "a code of nobody", &other{done}, 0, false, 0)
	expectState(t, "a code of nobody, nil", (*other)(nil), 0, false, 0)
	add, _ := atom.New(atom.Op{Kind: atom.Add, N: 1})
	take, _ := arena.Take(of, 0)
	for _, c := range []task.Code{add, take} {
		expectState(t, "a code of another layer", c, 0, false, 0)
		w := task.Start(c)
		for !w.Done() {
			w = w.Give(api.Got{OK: true})
			expectState(t, "a code of another layer", w.Code(), 0, false, 0)
		}
	}
	expectState(t, "a help", newHelp(t, of, ref(1, 1), true), 0, false, 0)
	expectState(t, "the code of the zero task", task.Task{}.Code(), 0, false, 0)
	worker := worker{layout: of, orders: []order{helping(ref(1, 1))}}
	expectState(t, "a code that runs a help", task.Start(worker).Code(), 0, false, 0)
}

// state is a code on its way, with the result that it was resumed with.
type state struct {
	code task.Code
	got  api.Got
}

// 'Values': each state of a help continues in the same way however often it is resumed, and whatever it got elsewhere.
func TestCodesAreValues(t *testing.T) {
	r := rand.New(rand.NewSource(1))
	for seed := range int64(150) {
		l := layout.Layout{Threads: 3, Cells: 5, Blocks: 1}
		m, refs := anyScene(rand.New(rand.NewSource(seed)), l)
		which := refs[2*r.Intn(4)]
		var states []state
		var acts []api.Act
		var depths []int
		s := state{code: newHelp(t, l, which, seed%2 == 0)}
		for range 120 {
			states = append(states, s)
			next, act, finished := s.code.Next(s.got)
			acts, depths = append(acts, act), append(depths, help.Depth(next))
			if finished {
				break
			}
			s = state{next, m.answer(act)}
		}
		for range 400 {
			c := states[r.Intn(len(states))].code
			for range r.Intn(6) {
				g := states[r.Intn(len(states))].got
				if r.Intn(2) == 0 {
					g.OK = !g.OK
				}
				if r.Intn(2) == 0 {
					g.Word.Ref = refs[r.Intn(len(refs))]
				}
				c, _, _ = c.Next(g)
			}
		}
		// The last state first: going on from an earlier one could repair what the others have done to the later ones.
		for i, s := range slices.Backward(states) {
			next, act, finished := s.code.Next(s.got)
			if act != acts[i] || help.Depth(next) != depths[i] || finished && i < len(states)-1 {
				t.Fatalf("seed %d, state %d: %+v, finished %v, wanted %+v", seed, i, act, finished, acts[i])
			}
			for j := i + 1; j < len(states) && !finished; j++ {
				next, act, finished = next.Next(states[j].got)
				if act != acts[j] {
					t.Fatalf("seed %d, from state %d on: act %d is %+v, wanted %+v", seed, i, j, act, acts[j])
				}
			}
		}
	}
}
