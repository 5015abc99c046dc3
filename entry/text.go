package entry

import (
	"strconv"
	"strings"

	"simulcast/api"
	"simulcast/word"
)

// Text returns the text of any list, valid or not.
func Text(l ...api.Entry) string {
	texts := make([]string, len(l))
	for i, e := range l {
		texts[i] = text(e)
	}
	return strings.Join(texts, " ")
}

func text(e api.Entry) string {
	s := strconv.Itoa(int(e.At)) + ":" + word.Text(e.Old)
	if e.Write {
		s += "=" + strconv.FormatInt(e.New, 10)
	}
	return s
}
