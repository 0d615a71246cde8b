package herald

import (
	"strconv"
	"strings"
)

// Relay takes bytes in, and keeps what is to be kept (P8).
func Relay(f *Frames, r *Rules, l *Log, bytes string, year int) (string, Errno) {
	if f == nil || r == nil || l == nil || !isYear(year) {
		return "", ErrArg
	}
	var told strings.Builder
	for what := range f.found(bytes) {
		told.WriteString(relayed(r, l, what, year))
		told.WriteByte(lineEnd)
	}
	return told.String(), OK
}

// relayed brings what was found as far as it comes, and tells how far that was.
func relayed(r *Rules, l *Log, what string, year int) string {
	frame, whole := strings.CutPrefix(what, frameMark)
	if !whole {
		return "bad"
	}
	m, e, _ := Read(frame, year)
	if e != OK {
		return failed(e)
	}
	// What Read has read is of a source that Keeps knows, so it answers no error here.
	if keeps, _ := r.Keeps(m.Facility, m.Severity); !keeps {
		return "dropped"
	}
	number, e := l.Put(m)
	if e != OK {
		return failed(e)
	}
	return "kept " + strconv.Itoa(number)
}

func failed(e Errno) string {
	return "error " + strconv.Itoa(int(e))
}
