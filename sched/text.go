package sched

import (
	"math"
	"strconv"
	"strings"

	"simulcast/api"
)

// keywords has the first word of a pick's line, by the pick's Kind.
var keywords = [3]string{"step", "stop", "crash"}

// Parse returns the schedule whose text is s; on an error, the number of the line that is at fault, from 1.
func Parse(s string) ([]api.Pick, int, api.Errno) {
	if len(s) > api.MaxText {
		return nil, 0, api.ErrLong
	}
	var picks []api.Pick
	for s != "" {
		line, rest, ended := strings.Cut(s, "\n")
		p, e := parseLine(line)
		switch {
		case !ended:
			e = api.ErrForm
		case e == api.OK && len(picks) == api.MaxPicks:
			e = api.ErrMany
		}
		if e != api.OK {
			return nil, len(picks) + 1, e
		}
		picks, s = append(picks, p), rest
	}
	return picks, 0, api.OK
}

// Print returns the text of a schedule.
func Print(l ...api.Pick) (string, api.Errno) {
	if len(l) > api.MaxPicks {
		return "", api.ErrMany
	}
	var text []byte
	for _, p := range l {
		if e := check(p); e != api.OK {
			return "", e
		}
		text = appendLine(text, p)
	}
	if len(text) > api.MaxText {
		return "", api.ErrLong
	}
	return string(text), api.OK
}

// parseLine returns the pick whose line is the given one, without its line feed.
func parseLine(line string) (api.Pick, api.Errno) {
	words := strings.Split(line, " ")
	kind, known := kindOf(words[0])
	numbers := words[1:]
	if !known || len(numbers) != manyNumbers(kind) || !allCanonical(numbers) {
		return api.Pick{}, api.ErrForm
	}
	p, ok := api.Pick{Kind: kind}, true
	if hasThread(kind) {
		p.Thread, ok = value(numbers[0])
	}
	if ok && hasChoice(kind) {
		p.Choice, ok = value(numbers[len(numbers)-1])
	}
	if !ok || check(p) != api.OK {
		return api.Pick{}, api.ErrRange
	}
	return p, api.OK
}

// appendLine appends the line of a valid pick to text.
func appendLine(text []byte, p api.Pick) []byte {
	text = append(text, keywords[p.Kind]...)
	if hasThread(p.Kind) {
		text = strconv.AppendInt(append(text, ' '), int64(p.Thread), 10)
	}
	if hasChoice(p.Kind) {
		text = strconv.AppendInt(append(text, ' '), int64(p.Choice), 10)
	}
	return append(text, '\n')
}

// check returns the first error of a pick, or OK if it is valid.
func check(p api.Pick) api.Errno {
	least, most := 0, 0
	if hasThread(p.Kind) {
		least, most = 1, api.MaxThreads
	}
	switch {
	case p.Kind < 0 || p.Kind >= len(keywords):
		return api.ErrKind
	case p.Thread < least || p.Thread > most:
		return api.ErrRange
	case !hasChoice(p.Kind) && p.Choice != 0:
		return api.ErrValue
	case p.Choice < math.MinInt32 || p.Choice > math.MaxInt32:
		return api.ErrValue
	}
	return api.OK
}

func kindOf(keyword string) (int, bool) {
	for kind, k := range keywords {
		if k == keyword {
			return kind, true
		}
	}
	return 0, false
}

func hasThread(kind int) bool { return kind != api.PickCrash }

func hasChoice(kind int) bool { return kind != api.PickStop }

// manyNumbers returns how many numbers the line of a pick has.
func manyNumbers(kind int) int {
	if hasThread(kind) && hasChoice(kind) {
		return 2
	}
	return 1
}

func allCanonical(numbers []string) bool {
	for _, n := range numbers {
		if !canonical(n) {
			return false
		}
	}
	return true
}

// canonical reports whether s is a number, of any length, in canonical decimal form.
func canonical(s string) bool {
	if s == "0" {
		return true
	}
	digits := strings.TrimPrefix(s, "-")
	if digits == "" || digits[0] == '0' {
		return false
	}
	for i := range len(digits) {
		if digits[i] < '0' || digits[i] > '9' {
			return false
		}
	}
	return true
}

// value returns a canonical number, or false if it is outside the range of every number of a pick.
func value(number string) (int, bool) {
	n, err := strconv.ParseInt(number, 10, 32)
	return int(n), err == nil
}
