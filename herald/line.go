package herald

import (
	"strconv"
	"strings"
)

// Line writes a message (P4).
func Line(m Message) (string, Errno) {
	if e := fault(m); e != OK {
		return "", e
	}
	source := severities*m.Facility + m.Severity
	parts := []string{"<" + strconv.Itoa(source) + ">1"}
	for _, text := range [...]string{m.Time, m.Host, m.App, m.Proc, m.Id, m.Data} {
		if text == "" {
			text = notTold
		}
		parts = append(parts, text)
	}
	if m.Text != "" {
		parts = append(parts, m.Text)
	}
	if joinedLength(parts) > maxLine {
		return "", ErrLong
	}
	return strings.Join(parts, " "), OK
}

// fault tells the first part that may not be; how long the line is, it leaves aside.
func fault(m Message) Errno {
	if !isSource(m.Facility, m.Severity) {
		return ErrSource
	}
	if m.Time != "" && !isTime(m.Time) {
		return ErrTime
	}
	words := [wordCount]string{hostWord: m.Host, appWord: m.App, procWord: m.Proc, idWord: m.Id}
	for i, kind := range wordKinds {
		if words[i] != "" && !isWord(words[i], kind.most) {
			return kind.none
		}
	}
	if m.Data != "" && !isData(m.Data) {
		return ErrData
	}
	if !isPlain(m.Text) {
		return ErrText
	}
	return OK
}

// joinedLength counts ahead of the joining, so that no line that is too long is ever built.
func joinedLength(parts []string) int {
	length := len(parts) - 1
	for _, part := range parts {
		length += len(part)
	}
	return length
}
