package sched_test

import (
	"math"
	"math/rand"
	"regexp"
	"slices"
	"strings"
	"testing"

	"simulcast/api"
	"simulcast/sched"
)

func step(thread, choice int) api.Pick {
	return api.Pick{Kind: api.PickStep, Thread: thread, Choice: choice}
}
func stop(thread int) api.Pick  { return api.Pick{Kind: api.PickStop, Thread: thread} }
func crash(choice int) api.Pick { return api.Pick{Kind: api.PickCrash, Choice: choice} }

// lines has valid picks with their lines.
var lines = []struct {
	text string
	pick api.Pick
}{
	{"step 1 0\n", step(1, 0)},
	{"step 8 0\n", step(8, 0)},
	{"step 2 7\n", step(2, 7)},
	{"step 3 10\n", step(3, 10)},
	{"step 4 -1\n", step(4, -1)},
	{"step 5 -100\n", step(5, -100)},
	{"step 6 2147483647\n", step(6, math.MaxInt32)},
	{"step 7 -2147483648\n", step(7, math.MinInt32)},
	{"stop 1\n", stop(1)},
	{"stop 8\n", stop(8)},
	{"crash 0\n", crash(0)},
	{"crash -1\n", crash(-1)},
	{"crash -2\n", crash(-2)},
	{"crash 61\n", crash(61)},
	{"crash 2147483647\n", crash(math.MaxInt32)},
	{"crash -2147483648\n", crash(math.MinInt32)},
}

func expectParse(t *testing.T, s string, wanted ...api.Pick) {
	t.Helper()
	l, n, e := sched.Parse(s)
	if e != api.OK || n != 0 || !slices.Equal(l, wanted) {
		t.Errorf("Parse(%.60q): %d picks, line %d, error %d, wanted %d picks", s, len(l), n, e, len(wanted))
	}
}

func expectParseError(t *testing.T, s string, line int, wanted api.Errno) {
	t.Helper()
	l, n, e := sched.Parse(s)
	if e != wanted || n != line || len(l) != 0 {
		t.Errorf("Parse(%.60q): %d picks, line %d, error %d, wanted line %d, error %d", s, len(l), n, e, line, wanted)
	}
}

func expectPrint(t *testing.T, wanted string, l ...api.Pick) {
	t.Helper()
	if s, e := sched.Print(l...); s != wanted || e != api.OK {
		t.Errorf("Print of %d picks: %.60q, error %d, wanted %.60q", len(l), s, e, wanted)
	}
}

func expectPrintError(t *testing.T, wanted api.Errno, l ...api.Pick) {
	t.Helper()
	if s, e := sched.Print(l...); s != "" || e != wanted {
		t.Errorf("Print of %d picks: %.60q, error %d, wanted error %d", len(l), s, e, wanted)
	}
}

// P7.1: the lines of valid picks, one by one and all together; the empty schedule; the example.
func TestLines(t *testing.T) {
	all, picks := "", []api.Pick{}
	for _, x := range lines {
		expectParse(t, x.text, x.pick)
		expectPrint(t, x.text, x.pick)
		all, picks = all+x.text, append(picks, x.pick)
	}
	expectParse(t, all, picks...)
	expectPrint(t, all, picks...)
	expectParse(t, "")
	expectPrint(t, "")
	l, _, _ := sched.Parse("step 2 0\nstop 1\ncrash -1\n")
	if len(l) != 3 || l[0].Kind != 0 || l[1].Kind != 1 || l[2].Kind != 2 {
		t.Errorf("the example: %+v", l)
	}
}

// P7.1: lines that don't have the form of a pick's line, at several places of a schedule.
func TestParseForm(t *testing.T) {
	bad := []string{
		"", " ", "step", "stop", "crash", "step ", "stop ", "crash ", "step 1", "step 1 ", "step  1 0", "step 1  0", "step 1 0 ",
		" step 1 0", "step 1 0 0", "step\t1 0", "step 1\t0", "step,1,0", "stop 1 0", "stop  1", "stop 1 ", " stop 1", "crash 1 0",
		"crash  1", "crash 1 ", "crash 0 1", "Step 1 0", "STOP 1", "Crash 1", "steps 1 0", "ste 1 0", "stop1", "crash1", "halt 1",
		"0 1 0", "1 1", "2 1", "step 1 0\r", "stop 1\r", "\r", "\x00", "\xff", "step 1 0\x00", "step\u00a01 0", "step ١ 0", "step 1 ١",
		"step 01 0", "step 1 00", "step 1 01", "step 1 -01", "step +1 0", "step 1 +1", "step 1 +0", "step 1 -0", "step -0 0",
		"step -01 0", "stop 01", "stop 00", "stop +1", "stop -0", "crash 00", "crash 01", "crash -00", "crash +1", "crash -0",
		"crash --1", "crash -", "crash +", "crash 1-", "step - 0", "step 1 -", "step x 0", "step 1 x", "stop x", "crash x",
		"step 1x 0", "step 1 0x1", "crash 1_0", "crash 1e3", "crash 1.0", "crash 0.", "step 1,0", "stop '1'",
		"crash 0" + strings.Repeat("9", 100), "crash " + strings.Repeat("0", 1000), "crash -0" + strings.Repeat("1", 99),
		"crash " + strings.Repeat("9", 1000) + "x", "stop +" + strings.Repeat("9", 50),
		// Form comes ahead of range: each of these has a number that is out of range as well.
		"step 9 x", "step 0 -0", "step 9 0 ", "step 01 2147483648", "stop 9 0", "stop 0 ", "crash 2147483648 ", "step 99999999999999999999 +1",
	}
	for _, line := range bad {
		expectParseError(t, line+"\n", 1, api.ErrForm)
		expectParseError(t, "stop 3\n"+line+"\n", 2, api.ErrForm)
		expectParseError(t, "step 1 1\ncrash 5\n"+line+"\nstop 9\nx\n", 3, api.ErrForm)
	}
}

// P7.1: every line ends with a line feed, also the last one.
func TestParseLastLine(t *testing.T) {
	for _, x := range lines {
		expectParseError(t, strings.TrimSuffix(x.text, "\n"), 1, api.ErrForm)
		expectParseError(t, "stop 1\n"+strings.TrimSuffix(x.text, "\n"), 2, api.ErrForm)
		expectParseError(t, x.text+"\n", 2, api.ErrForm)
		expectParseError(t, "\n"+x.text, 1, api.ErrForm)
	}
	for _, line := range []string{"step 9 0", "stop 0", "crash 2147483648", "x", " "} {
		expectParseError(t, line, 1, api.ErrForm)
	}
}

// P7.1: numbers in canonical form that no valid pick has, however many digits they have.
func TestParseRange(t *testing.T) {
	huge := strings.Repeat("9", 5000)
	bad := []string{
		"step 0 0", "step 9 0", "step -1 0", "step 10 0", "step 100 0", "stop 0", "stop 9", "stop -1", "stop -8", "stop 2147483647",
		"step 1 2147483648", "step 1 -2147483649", "crash 2147483648", "crash -2147483649", "crash 4294967296", "crash 4294967297",
		"step 4294967297 0", "stop 4294967297", "step 18446744073709551617 0", "stop 18446744073709551617", "stop -18446744073709551615",
		"step 1 9223372036854775807", "step 1 9223372036854775808", "step 1 -9223372036854775808", "step 1 -9223372036854775809",
		"crash 18446744073709551616", "crash 18446744073709551617", "crash -18446744073709551616",
		"step " + huge + " 0", "step 1 " + huge, "step 1 -" + huge, "stop " + huge, "stop -" + huge, "crash " + huge, "crash -" + huge,
		"crash 1" + strings.Repeat("0", 5000), "step 9 2147483648",
	}
	for _, line := range bad {
		expectParseError(t, line+"\n", 1, api.ErrRange)
		expectParseError(t, "stop 3\n"+line+"\nx\n", 2, api.ErrRange)
	}
}

// P7.1: the first line that is at fault counts, whatever is wrong with later ones.
func TestParseFirstError(t *testing.T) {
	expectParseError(t, "step 1 0\nstop 9\nx\n", 2, api.ErrRange)
	expectParseError(t, "step 1 0\nx\nstop 9\n", 2, api.ErrForm)
	expectParseError(t, "step 1 0\nstop 9\nstop 1", 2, api.ErrRange)
}

// P7.1: a text has at most MaxText bytes, which is checked ahead of its lines.
func TestParseLong(t *testing.T) {
	full := strings.Repeat("step 1 12345678\n", api.MaxPicks)
	if len(full) != api.MaxText {
		t.Fatal(len(full))
	}
	expectParse(t, full, slices.Repeat([]api.Pick{step(1, 12345678)}, api.MaxPicks)...)
	for _, s := range []string{full + "x", full + "\n", "x" + full, full + "stop 1\n", strings.Repeat("x", api.MaxText+1),
		strings.Repeat("\n", api.MaxText+1), "stop 9\n" + full, strings.Repeat("stop 1\n", 10000), strings.Repeat(" ", 1<<20)} {
		expectParseError(t, s, 0, api.ErrLong)
	}
	for _, s := range []string{strings.Repeat("x", api.MaxText), strings.Repeat("\n", api.MaxText), strings.Repeat(" ", api.MaxText)} {
		expectParseError(t, s, 1, api.ErrForm)
	}
	digits := strings.Repeat("7", api.MaxText-len("crash \n"))
	expectParseError(t, "crash "+digits+"\n", 1, api.ErrRange)
	expectParseError(t, "crash 7"+digits+"\n", 0, api.ErrLong)
}

// P7.1: a schedule has at most MaxPicks picks; of line 4097, the form and the range are checked first.
func TestParseMany(t *testing.T) {
	full := strings.Repeat("stop 1\n", api.MaxPicks)
	expectParse(t, full, slices.Repeat([]api.Pick{stop(1)}, api.MaxPicks)...)
	for _, x := range lines {
		expectParseError(t, full+x.text, 4097, api.ErrMany)
		expectParseError(t, full+strings.TrimSuffix(x.text, "\n"), 4097, api.ErrForm)
	}
	expectParseError(t, full+"stop 1\nx\nstop 9\n", 4097, api.ErrMany)
	expectParseError(t, full+full, 4097, api.ErrMany)
	expectParseError(t, full+"\n", 4097, api.ErrForm)
	expectParseError(t, full+"stop 01\n", 4097, api.ErrForm)
	expectParseError(t, full+"stop 9\n", 4097, api.ErrRange)
	expectParseError(t, full[7:]+"stop 9\n", 4096, api.ErrRange)
}

// P7.1: each invalid Kind, Thread and Choice, and which error comes first.
func TestPrintErrors(t *testing.T) {
	pick := func(kind, thread, choice int) api.Pick { return api.Pick{Kind: kind, Thread: thread, Choice: choice} }
	for _, kind := range []int{math.MinInt, -1, 3, 4, math.MaxInt} {
		for _, thread := range []int{-1, 0, 1, 9} {
			for _, choice := range []int{math.MinInt, 0, 1, math.MaxInt} {
				expectPrintError(t, api.ErrKind, pick(kind, thread, choice))
			}
		}
	}
	choices := []int{math.MinInt, math.MinInt32 - 1, 0, 1, math.MaxInt32 + 1, math.MaxInt}
	for _, thread := range []int{math.MinInt, -1, 0, 9, 10, math.MaxInt} {
		for _, choice := range choices {
			expectPrintError(t, api.ErrRange, pick(api.PickStep, thread, choice))
			expectPrintError(t, api.ErrRange, pick(api.PickStop, thread, choice))
			if thread != 0 {
				expectPrintError(t, api.ErrRange, pick(api.PickCrash, thread, choice))
			}
		}
	}
	for _, thread := range []int{1, 8} {
		for _, choice := range choices {
			expectPrintError(t, api.ErrRange, pick(api.PickCrash, thread, choice))
		}
		for _, choice := range []int{math.MinInt, math.MinInt32 - 1, math.MaxInt32 + 1, math.MaxInt} {
			expectPrintError(t, api.ErrValue, pick(api.PickStep, thread, choice))
			expectPrintError(t, api.ErrValue, pick(api.PickCrash, 0, choice))
		}
		for _, choice := range []int{math.MinInt, math.MinInt32, -1, 1, math.MaxInt32, math.MaxInt} {
			expectPrintError(t, api.ErrValue, pick(api.PickStop, thread, choice))
		}
	}
}

// P7.1: the first pick that is at fault counts; the number of picks comes ahead of them, the length behind them.
func TestPrintFirstError(t *testing.T) {
	kind, thread, choice := api.Pick{Kind: 3}, stop(0), api.Pick{Kind: api.PickStop, Thread: 1, Choice: 1}
	expectPrintError(t, api.ErrKind, stop(1), kind, thread, choice)
	expectPrintError(t, api.ErrRange, stop(1), thread, choice, kind)
	expectPrintError(t, api.ErrValue, stop(1), choice, kind, thread)

	full := slices.Repeat([]api.Pick{step(1, 12345678)}, api.MaxPicks)
	expectPrint(t, strings.Repeat("step 1 12345678\n", api.MaxPicks), full...)
	for _, bad := range []api.Pick{kind, thread, choice, stop(1)} {
		expectPrintError(t, api.ErrMany, append(slices.Clone(full), bad)...)
		expectPrintError(t, api.ErrMany, append([]api.Pick{bad}, full...)...)
	}
	long := slices.Clone(full)
	long[17] = step(1, 123456789)
	expectPrintError(t, api.ErrLong, long...)
	expectPrint(t, strings.Repeat("step 1 12345678\n", 17)+"step 1 123456789\n", long[:18]...)
	expectPrintError(t, api.ErrLong, slices.Repeat([]api.Pick{step(8, math.MinInt32)}, api.MaxPicks)...)
	for want, bad := range map[api.Errno]api.Pick{api.ErrKind: kind, api.ErrRange: thread, api.ErrValue: choice} {
		worse := slices.Repeat([]api.Pick{step(8, math.MinInt32)}, api.MaxPicks)
		worse[api.MaxPicks-1] = bad
		expectPrintError(t, want, worse...)
	}
}

func anyPick(r *rand.Rand) api.Pick {
	choice := r.Intn(7) - 3
	if r.Intn(3) == 0 {
		choice = int(int32(r.Uint32()))
	}
	return []api.Pick{step(1+r.Intn(8), choice), stop(1 + r.Intn(8)), crash(choice)}[r.Intn(3)]
}

// P7.4: Parse takes back what Print returns, and the other way round.
func TestParseOfPrint(t *testing.T) {
	r := rand.New(rand.NewSource(1))
	for range 300 {
		var l []api.Pick
		for range r.Intn(60) {
			l = append(l, anyPick(r))
		}
		s, e := sched.Print(l...)
		if e != api.OK {
			t.Fatalf("Print(%v): %d", l, e)
		}
		expectParse(t, s, l...)
	}
}

// P7.1, P7.4: random texts, close to those of picks: what a plain description of a line takes, and nothing else, is
// parsed, and printed again as it was.
func TestPrintOfParse(t *testing.T) {
	number := `(0|-?[1-9][0-9]*)`
	form := regexp.MustCompile(`^(step ` + number + ` ` + number + `|stop ` + number + `|crash ` + number + `)$`)
	thread := regexp.MustCompile(`^(step|stop) [1-8]( |$)|^crash `)
	parts := []string{"step", "stop", "crash", " ", " ", " ", "0", "1", "8", "9", "-", "+", "12", "\n", "x"}
	r := rand.New(rand.NewSource(2))
	taken := 0
	for range 200000 {
		line := parts[r.Intn(3)] + " "
		for range r.Intn(5) {
			line += parts[r.Intn(len(parts))]
		}
		wanted := api.OK
		switch {
		case strings.Contains(line, "\n"):
			continue
		case !form.MatchString(line):
			wanted = api.ErrForm
		case !thread.MatchString(line):
			wanted = api.ErrRange
		}
		l, n, e := sched.Parse(line + "\n")
		if e != wanted || (e != api.OK) != (n == 1) || (e == api.OK) != (len(l) == 1) {
			t.Fatalf("Parse(%q): %v, line %d, error %d, wanted %d", line, l, n, e, wanted)
		}
		if e == api.OK {
			taken++
			expectPrint(t, line+"\n", l...)
		}
	}
	if taken < 1000 {
		t.Errorf("only %d of the random lines have the form", taken)
	}
}

// FuzzParse: no text makes Parse panic, and a text that is parsed is the one that Print returns.
func FuzzParse(f *testing.F) {
	for _, x := range lines {
		f.Add(x.text)
		f.Add(x.text + "stop 9\n")
	}
	f.Fuzz(func(t *testing.T, s string) {
		l, n, e := sched.Parse(s)
		if e == api.OK {
			expectPrint(t, s, l...)
			if n != 0 {
				t.Errorf("Parse(%q): line %d", s, n)
			}
		} else if len(l) != 0 || (n == 0) != (e == api.ErrLong) || n > strings.Count(s, "\n")+1 {
			t.Errorf("Parse(%q): %v, line %d, error %d", s, l, n, e)
		}
	})
}
