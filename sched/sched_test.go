package sched_test

import (
	"math"
	"math/big"
	"math/rand"
	"slices"
	"testing"

	"simulcast/api"
	"simulcast/sched"
)

func expectText(t *testing.T, what string, l []api.Pick, wanted string) {
	t.Helper()
	if s, e := sched.Print(l...); s != wanted || e != api.OK {
		t.Errorf("%s: %q, error %d, wanted %q", what, s, e, wanted)
	}
}

// P7.2: generated schedules, written down from a run of the generator in another language.
func TestDraw(t *testing.T) {
	expectText(t, "Draw", sched.Draw(7, 3, 10, 2), "step 1 3\nstep 1 0\nstep 2 2\ncrash 24\nstep 3 0\nstep 3 3\nstep 1 3\ncrash 58\n"+
		"step 1 2\nstep 3 1\nstep 1 1\nstep 2 0\n")
	expectText(t, "a crash behind each step but the last", sched.Draw(0, 8, 6, 5), "step 7 2\ncrash 48\nstep 4 1\ncrash 35\nstep 4 2\ncrash 40\n"+
		"step 6 3\ncrash 41\nstep 6 1\ncrash 61\nstep 2 1\n")
	expectText(t, "the greatest seed", sched.Draw(math.MaxUint64, 5, 7, 3), "step 3 2\ncrash 15\nstep 2 1\ncrash 0\nstep 1 2\ncrash 7\nstep 3 3\n"+
		"step 1 2\nstep 5 1\nstep 1 1\n")
	expectText(t, "one thread", sched.Draw(2026, 1, 3, 0), "step 1 2\nstep 1 1\nstep 1 2\n")
	expectText(t, "one crash", sched.Draw(1<<63, 8, 9, 1), "step 2 1\nstep 4 0\nstep 6 0\nstep 8 3\ncrash 19\nstep 1 0\nstep 8 3\nstep 6 0\n"+
		"step 4 0\nstep 5 2\n")
}

// digest is a number that tells one long schedule from another.
func digest(l []api.Pick) uint64 {
	h := uint64(0)
	for _, p := range l {
		for _, x := range []int{p.Kind, p.Thread, p.Choice} {
			h = h*1000003 + uint64(x)
		}
	}
	return h
}

// P7.2: long generated schedules, by their digests in the other language; among them those at the limits.
func TestDrawLong(t *testing.T) {
	for _, x := range []struct {
		seed                         uint64
		threads, n, crashes, wantLen int
		want                         uint64
	}{
		{7, 8, 4096, 64, 4160, 6389556935399085277},
		{1, 7, 4096, 0, 4096, 990797647248051495},
		{123456789, 3, 64, 63, 127, 6054122010535639494},
		{5, 6, 65, 64, 129, 11822354431140469178},
		{5, 6, 64, 64, 64, 2610591183793293442}, // a gap of 0
		{9, 2, 200, 64, 264, 14971664815501846301},
	} {
		l := sched.Draw(x.seed, x.threads, x.n, x.crashes)
		if len(l) != x.wantLen || digest(l) != x.want {
			t.Errorf("Draw(%d, %d, %d, %d): %d picks, digest %d", x.seed, x.threads, x.n, x.crashes, len(l), digest(l))
		}
	}
}

// generator is the definition's generator once more, on numbers without bounds.
type generator struct{ state *big.Int }

var word = new(big.Int).Lsh(big.NewInt(1), 64)

func hex(s string) *big.Int {
	n, _ := new(big.Int).SetString(s, 16)
	return n
}

func mixed(n *big.Int) *big.Int { return new(big.Int).Xor(n, new(big.Int).Rsh(n, 33)) }

func (g *generator) number() *big.Int {
	g.state = new(big.Int).Mod(new(big.Int).Add(g.state, hex("9E3779B97F4A7C15")), word)
	z := new(big.Int).Mul(mixed(g.state), hex("FF51AFD7ED558CCD"))
	return mixed(z.Mod(z, word))
}

func modulo(z *big.Int, n int) int { return int(new(big.Int).Mod(z, big.NewInt(int64(n))).Int64()) }

func generated(seed uint64, threads, n, crashes int) []api.Pick {
	g := generator{new(big.Int).SetUint64(seed)}
	follows := map[int]bool{}
	if gap := n / (crashes + 1); gap >= 1 {
		for i := 1; i <= crashes; i++ {
			follows[i*gap] = true
		}
	}
	var l []api.Pick
	for i := 1; i <= n; i++ {
		z := g.number()
		l = append(l, step(1+modulo(z, threads), modulo(new(big.Int).Rsh(z, 32), 4)))
		if follows[i] {
			l = append(l, crash(modulo(g.number(), 64)-2))
		}
	}
	return l
}

// P7.2, P7.4: many generated schedules against the generator on numbers without bounds; each has exactly n steps.
func TestDrawAgainstDefinition(t *testing.T) {
	r := rand.New(rand.NewSource(3))
	for range 300 {
		seed, threads, n, crashes := r.Uint64(), 1+r.Intn(8), r.Intn(80), r.Intn(20)
		l := sched.Draw(seed, threads, n, crashes)
		if !slices.Equal(l, generated(seed, threads, n, crashes)) {
			t.Fatalf("Draw(%d, %d, %d, %d) = %v", seed, threads, n, crashes, l)
		}
		steps := 0
		for thread := 1; thread <= threads; thread++ {
			steps += sched.Count(thread, l...)
		}
		wanted := crashes
		if n <= crashes {
			wanted = 0
		}
		if steps != n || len(l)-n != wanted {
			t.Fatalf("Draw(%d, %d, %d, %d): %d steps, %d crashes", seed, threads, n, crashes, steps, len(l)-n)
		}
		if _, e := sched.Print(l...); e != api.OK {
			t.Fatalf("Draw(%d, %d, %d, %d): error %d", seed, threads, n, crashes, e)
		}
	}
}

// P7.2: without a gap there are no crashes, and no number is drawn for one.
func TestDrawWithoutGap(t *testing.T) {
	for n := range 66 {
		plain := sched.Draw(11, 4, n, 0)
		for _, crashes := range []int{n, n + 1, 64} {
			if crashes > 64 {
				continue
			}
			l := sched.Draw(11, 4, n, crashes)
			if gone := n <= crashes; gone != slices.Equal(l, plain) {
				t.Errorf("Draw(11, 4, %d, %d) has %d picks", n, crashes, len(l))
			}
		}
	}
}

// P7.2: every parameter of Draw and Fair at and beyond its limits.
func TestLimits(t *testing.T) {
	for _, x := range []struct{ threads, n, crashes, draw, fair int }{
		{1, 10, 0, 10, 10}, {8, 10, 0, 10, 10}, {1, 0, 0, 0, 0}, {8, 0, 64, 0, 0}, {1, 1, 0, 1, 1}, {1, 1, 1, 1, 1},
		{1, 4096, 0, 4096, 4096}, {8, 4096, 64, 4160, 4096},
		{0, 10, 0, 0, 0}, {-1, 10, 0, 0, 0}, {9, 10, 0, 0, 0}, {math.MinInt, 10, 0, 0, 0}, {math.MaxInt, 10, 0, 0, 0},
		{2, -1, 0, 0, 0}, {2, 4097, 0, 0, 0}, {2, math.MinInt, 0, 0, 0}, {2, math.MaxInt, 0, 0, 0}, {0, 0, 0, 0, 0},
		{2, 100, -1, 0, 100}, {2, 100, 65, 0, 100}, {2, 100, math.MinInt, 0, 100}, {2, 100, math.MaxInt, 0, 100}, {2, 100, 64, 164, 100},
	} {
		for _, seed := range []uint64{0, 1, math.MaxUint64} {
			if l := sched.Draw(seed, x.threads, x.n, x.crashes); len(l) != x.draw {
				t.Errorf("Draw(%d, %d, %d, %d) has %d picks, wanted %d", seed, x.threads, x.n, x.crashes, len(l), x.draw)
			}
		}
		if l := sched.Fair(x.threads, x.n); len(l) != x.fair {
			t.Errorf("Fair(%d, %d) has %d picks, wanted %d", x.threads, x.n, len(l), x.fair)
		}
	}
}

// P7.2: the threads in turn, with the example.
func TestFair(t *testing.T) {
	expectText(t, "Fair(2, 3)", sched.Fair(2, 3), "step 1 0\nstep 2 0\nstep 1 0\n")
	expectText(t, "Fair(1, 3)", sched.Fair(1, 3), "step 1 0\nstep 1 0\nstep 1 0\n")
	expectText(t, "Fair(8, 2)", sched.Fair(8, 2), "step 1 0\nstep 2 0\n")
	for threads := 1; threads <= 8; threads++ {
		next := 1
		for i, p := range sched.Fair(threads, 4096) {
			if p != step(next, 0) {
				t.Fatalf("Fair(%d, 4096) has %+v at %d", threads, p, i)
			}
			next++
			if next > threads {
				next = 1
			}
		}
	}
}

// P7.3: stops, repeated ones and those of threads that can't exist among them; other kinds don't stop anything.
func TestStops(t *testing.T) {
	for _, x := range []struct {
		picks []api.Pick
		want  []int
	}{
		{nil, nil},
		{[]api.Pick{step(1, 0), crash(2), step(3, 1)}, nil},
		{[]api.Pick{stop(3)}, []int{3}},
		{[]api.Pick{stop(3), stop(1), stop(3), stop(2), stop(1)}, []int{3, 1, 2}},
		{[]api.Pick{stop(8), stop(8), stop(8)}, []int{8}},
		{[]api.Pick{step(2, 0), stop(5), crash(0), stop(4), step(5, 0), stop(5)}, []int{5, 4}},
		{[]api.Pick{stop(0), stop(-1), stop(9), stop(0), stop(math.MaxInt), stop(-1)}, []int{0, -1, 9, math.MaxInt}},
		{[]api.Pick{{Kind: 3, Thread: 1}, {Kind: -1, Thread: 2}, {Kind: 1, Thread: 4, Choice: 7}}, []int{4}},
	} {
		if got := sched.Stops(x.picks...); !slices.Equal(got, x.want) {
			t.Errorf("Stops(%v) = %v, wanted %v", x.picks, got, x.want)
		}
	}
}

// P7.3: parts before, between and behind crashes, empty ones among them.
func TestSplit(t *testing.T) {
	a, b, c, odd := step(1, 0), stop(2), step(3, -1), api.Pick{Kind: 7, Thread: -1}
	for _, x := range []struct {
		picks []api.Pick
		want  [][]api.Pick
	}{
		{nil, [][]api.Pick{{}}},
		{[]api.Pick{a, b}, [][]api.Pick{{a, b}}},
		{[]api.Pick{crash(0)}, [][]api.Pick{{}, {}}},
		{[]api.Pick{crash(0), a}, [][]api.Pick{{}, {a}}},
		{[]api.Pick{a, crash(0)}, [][]api.Pick{{a}, {}}},
		{[]api.Pick{a, crash(5), crash(6), b, c}, [][]api.Pick{{a}, {}, {b, c}}},
		{[]api.Pick{crash(1), crash(2), crash(3)}, [][]api.Pick{{}, {}, {}, {}}},
		{[]api.Pick{a, {Kind: 2, Thread: 9, Choice: 4}, odd}, [][]api.Pick{{a}, {odd}}},
	} {
		if got := sched.Split(x.picks...); !slices.EqualFunc(got, x.want, slices.Equal) {
			t.Errorf("Split(%v) = %v, wanted %v", x.picks, got, x.want)
		}
	}
}

// P7.3: only steps of the very thread count.
func TestCount(t *testing.T) {
	l := []api.Pick{step(1, 0), step(2, 5), stop(1), step(1, -3), crash(0), {Kind: 2, Thread: 1}, {Kind: 3, Thread: 1}, {Kind: -1, Thread: 1},
		step(0, 0), step(-4, 0), step(9, 1), step(9, 2), {Kind: 1, Thread: 3}}
	for thread, want := range map[int]int{1: 2, 2: 1, 3: 0, 0: 1, -4: 1, 9: 2, 8: 0, math.MinInt: 0, math.MaxInt: 0} {
		if got := sched.Count(thread, l...); got != want {
			t.Errorf("Count(%d) = %d, wanted %d", thread, got, want)
		}
	}
	if sched.Count(0) != 0 || sched.Count(1) != 0 {
		t.Error("steps of an empty schedule")
	}
}

// P7.4: the parts with the crashes between them are the schedule again.
func TestJoinedParts(t *testing.T) {
	r := rand.New(rand.NewSource(4))
	for range 300 {
		var l, crashes, joined []api.Pick
		for range r.Intn(30) {
			p := anyPick(r)
			if l = append(l, p); p.Kind == api.PickCrash {
				crashes = append(crashes, p)
			}
		}
		parts := sched.Split(l...)
		if len(parts) != len(crashes)+1 {
			t.Fatalf("Split(%v) has %d parts", l, len(parts))
		}
		for i, part := range parts {
			if joined = append(joined, part...); i < len(crashes) {
				joined = append(joined, crashes[i])
			}
		}
		if !slices.Equal(joined, l) {
			t.Fatalf("Split(%v) = %v", l, parts)
		}
	}
}

// Arguments keep their content and their spare capacity; results share no memory with them or with each other.
func TestMemory(t *testing.T) {
	given := make([]api.Pick, 0, 8)
	given = append(given, stop(1), crash(2), step(3, 0), stop(1), crash(0))
	kept := slices.Clone(given[:8])
	parts := sched.Split(given...)
	stops := sched.Stops(given...)
	sched.Count(3, given...)
	if _, e := sched.Print(given...); e != api.OK {
		t.Error("Print:", e)
	}
	for i := range parts {
		_ = append(parts[i], crash(77))
		for k := range parts[i][:cap(parts[i])] {
			parts[i][:cap(parts[i])][k] = crash(88 + i)
		}
	}
	stops[0] = 99
	if !slices.Equal(given[:8], kept) {
		t.Errorf("the argument is %v, wanted %v", given[:8], kept)
	}
	if parts[0][0] != crash(88) || parts[1][0] != crash(89) || parts[1][1] != crash(89) {
		t.Errorf("the parts share memory: %v", parts)
	}
	a, b := sched.Fair(2, 5), sched.Fair(2, 5)
	c, d := sched.Draw(1, 2, 5, 1), sched.Draw(1, 2, 5, 1)
	a[0], c[0] = stop(9), stop(9)
	if b[0] != step(1, 0) || d[0] == stop(9) {
		t.Error("two results share memory")
	}
}
