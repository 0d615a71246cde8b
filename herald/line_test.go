package herald

import (
	"fmt"
	"math"
	"strings"
	"testing"
)

func fullMessage() Message {
	return Message{Facility: 20, Severity: 5, Time: "2003-10-11T22:14:15.003Z", Host: "h", App: "a", Proc: "p", Id: "i", Data: `[x y="z"]`, Text: "t u"}
}

func mustWrite(t *testing.T, m Message, want string) {
	t.Helper()
	if line, e := Line(m); line != want || e != OK {
		t.Errorf("P4: Line(%+v) = %q, %d, want %q", m, line, e, want)
	}
}

func mustNotWrite(t *testing.T, m Message, want Errno) {
	t.Helper()
	if line, e := Line(m); line != "" || e != want {
		t.Errorf("P4: Line(%.300s) = %.80q, %d, want %d", fmt.Sprintf("%+v", m), line, e, want)
	}
}

func TestLine(t *testing.T) {
	mustWrite(t, fullMessage(), `<165>1 2003-10-11T22:14:15.003Z h a p i [x y="z"] t u`)
	mustWrite(t, Message{}, "<0>1 - - - - - -")
	mustWrite(t, Message{Facility: 23, Severity: 7}, "<191>1 - - - - - -")
	mustWrite(t, Message{Facility: 1, Text: " "}, "<8>1 - - - - - -  ")
	mustWrite(t, Message{Text: "-"}, "<0>1 - - - - - - -")
	mustWrite(t, Message{Time: "0001-01-01T00:00:00Z"}, "<0>1 0001-01-01T00:00:00Z - - - - -")
	mustWrite(t, Message{Host: "h"}, "<0>1 - h - - - -")
	mustWrite(t, Message{App: "a"}, "<0>1 - - a - - -")
	mustWrite(t, Message{Proc: "p"}, "<0>1 - - - p - -")
	mustWrite(t, Message{Id: "i"}, "<0>1 - - - - i -")
	mustWrite(t, Message{Data: "[d]"}, "<0>1 - - - - - [d]")
	mustWrite(t, Message{Host: strings.Repeat("h", 32), App: strings.Repeat("a", 16), Proc: strings.Repeat("p", 16), Id: strings.Repeat("i", 12)},
		"<0>1 - "+strings.Repeat("h", 32)+" "+strings.Repeat("a", 16)+" "+strings.Repeat("p", 16)+" "+strings.Repeat("i", 12)+" -")
}

func TestLineSource(t *testing.T) {
	for _, n := range []int{-1, 24, 191, math.MinInt, math.MaxInt} {
		mustNotWrite(t, Message{Facility: n}, ErrSource)
	}
	for _, n := range []int{-1, 8, math.MinInt, math.MaxInt} {
		mustNotWrite(t, Message{Facility: 1, Severity: n}, ErrSource)
	}
}

func TestLineTime(t *testing.T) {
	for _, text := range []string{
		"-", "x", "2003-10-11T22:14:15", "2003-10-11T22:14:15.Z", "2003-10-11T22:14:15.0Z", "2003-10-11T22:14:15.10Z", "2003-10-11T22:14:15.1234567Z",
		"2003-10-11T22:14:15+00:00", "2003-10-11T22:14:15-00:00", "2003-10-11T22:14:15+01:00", "2003-10-11T22:14:15Z ", " 2003-10-11T22:14:15Z",
		"2003-02-29T22:14:15Z", "0000-10-11T22:14:15Z", "2003-10-11T24:14:15Z", "2003-10-11T22:14:15." + strings.Repeat("0", 1<<20) + "Z",
	} {
		mustNotWrite(t, Message{Time: text}, ErrTime)
	}
	for _, text := range []string{"2004-02-29T22:14:15Z", "9999-12-31T23:59:59.999999Z", "2003-10-11T22:14:15.01Z"} {
		mustWrite(t, Message{Time: text}, "<0>1 "+text+" - - - - -")
	}
}

func TestLineWords(t *testing.T) {
	fields := []func(m *Message) *string{
		func(m *Message) *string { return &m.Host },
		func(m *Message) *string { return &m.App },
		func(m *Message) *string { return &m.Proc },
		func(m *Message) *string { return &m.Id },
	}
	most := []int{32, 16, 16, 12}
	errs := []Errno{ErrHost, ErrApp, ErrProc, ErrId}
	for i, field := range fields {
		for _, word := range []string{"-", " ", "a b", "a ", "\n", "\x7f", "\x1f", "\u00e9", "\xff", strings.Repeat("w", most[i]+1), strings.Repeat("w", 1<<24)} {
			m := fullMessage()
			*field(&m) = word
			mustNotWrite(t, m, errs[i])
		}
	}
}

func TestLineText(t *testing.T) {
	for _, text := range []string{"\x00", "a\n", "\x1f", "\x7f", "\xff", "a\xc3", "\xc0\x80", "\xed\xa0\x80", "\xf4\x90\x80\x80"} {
		mustNotWrite(t, Message{Text: text}, ErrText)
	}
	mustWrite(t, Message{Text: "\u0080\ufffd\U0010ffff"}, "<0>1 - - - - - - \u0080\ufffd\U0010ffff")
}

func TestLineLength(t *testing.T) {
	head := "<0>1 - - - - - - "
	full := strings.Repeat("x", 200-len(head))
	mustWrite(t, Message{Text: full}, head+full)
	mustNotWrite(t, Message{Text: full + "x"}, ErrLong)
	mustNotWrite(t, Message{Facility: 2, Text: full}, ErrLong)
	mustNotWrite(t, Message{Text: strings.Repeat("x", 1<<24)}, ErrLong)
	value := strings.Repeat("x", 200-len(`<0>1 - - - - - [a b=""]`))
	mustWrite(t, Message{Data: `[a b="` + value + `"]`}, `<0>1 - - - - - [a b="`+value+`"]`)
	mustNotWrite(t, Message{Data: `[a b="` + value + `x"]`}, ErrLong)
	mustNotWrite(t, Message{Data: `[a b="` + value + `"]`, Text: "x"}, ErrLong)
}

// A message with all errors at once is mended one by one: the answer follows the order of P4.
func TestLineFirstError(t *testing.T) {
	good := fullMessage()
	m := Message{Facility: 24, Time: "-", Host: "-", App: "-", Proc: "-", Id: "-", Data: "-", Text: strings.Repeat("\n", 201)}
	for _, step := range []struct {
		e    Errno
		mend func()
	}{
		{ErrSource, func() { m.Facility = good.Facility }},
		{ErrTime, func() { m.Time = good.Time }},
		{ErrHost, func() { m.Host = good.Host }},
		{ErrApp, func() { m.App = good.App }},
		{ErrProc, func() { m.Proc = good.Proc }},
		{ErrId, func() { m.Id = good.Id }},
		{ErrData, func() { m.Data = good.Data }},
		{ErrText, func() { m.Text = strings.Repeat("x", 201) }},
		{ErrLong, func() { m.Text = good.Text }},
	} {
		mustNotWrite(t, m, step.e)
		step.mend()
	}
	m.Severity = good.Severity
	if m != good {
		t.Fatalf("not all was mended: %+v", m)
	}
	mustWrite(t, m, `<165>1 2003-10-11T22:14:15.003Z h a p i [x y="z"] t u`)
}
