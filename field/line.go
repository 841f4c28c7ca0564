package field

import (
	"slices"

	"stillage/api"
)

// line is telegrams on their way, each as its bytes, in the order in which they came.
type line [][]byte

// add has a telegram come to the line's end; what comes to a full line is lost.
func (l *line) add(b []byte) {
	if len(*l) < api.MaxLine {
		*l = append(*l, b)
	}
}

// take has the telegram at a place go from the line, if there is any.
func (l *line) take(n int) ([]byte, bool) {
	i, is := place(n, len(*l))
	if !is {
		return nil, false
	}
	b := (*l)[i]
	*l = slices.Delete(*l, i, i+1)
	return b, true
}

// repeat has the telegram at a place come once more.
func (l *line) repeat(n int) {
	if i, is := place(n, len(*l)); is {
		l.add((*l)[i])
	}
}

// place is the one that a number, whatever it is, means in a list of this length; an empty list has none.
func place(n, length int) (int, bool) {
	if length == 0 {
		return 0, false
	}
	return int(uint64(n) % uint64(length)), true
}
