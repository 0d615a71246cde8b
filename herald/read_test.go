package herald

import (
	"math"
	"strings"
	"testing"
)

func mustRead(t *testing.T, line string, year int, want Message) {
	t.Helper()
	if m, e, at := Read(line, year); m != want || e != OK || at != 0 {
		t.Errorf("P3: Read(%q, %d) = %+v, %d, %d, want %+v", line, year, m, e, at, want)
	}
}

func mustRefuse(t *testing.T, line string, year int, want Errno, place int) {
	t.Helper()
	if m, e, at := Read(line, year); m != (Message{}) || e != want || at != place {
		t.Errorf("P3: Read(%.80q, %d) = %+v, %d, %d, want %d, %d", line, year, m, e, at, want, place)
	}
}

func TestReadBounds(t *testing.T) {
	mustRead(t, strings.Repeat(" ", 200), 1, Message{Facility: 1, Severity: 5, Text: strings.Repeat(" ", 200)})
	mustRefuse(t, strings.Repeat(" ", 201), 1, ErrLong, 0)
	// Length goes ahead of the year, the year ahead of what the line holds.
	mustRefuse(t, strings.Repeat("\n", 201), 0, ErrLong, 0)
	mustRefuse(t, "<0>1 x", 0, ErrArg, 0)
	mustRefuse(t, "\n", 10000, ErrArg, 0)
	mustRefuse(t, strings.Repeat("\xff", 1<<24), math.MinInt, ErrLong, 0)
	for _, year := range []int{math.MinInt, -1, 0, 10000, math.MaxInt} {
		mustRefuse(t, "<0>1 - - - - - -", year, ErrArg, 0)
		mustRefuse(t, "", year, ErrArg, 0)
	}
	for _, year := range []int{1, 9999} {
		mustRead(t, "<0>1 - - - - - -", year, Message{})
		mustRead(t, "", year, Message{Facility: 1, Severity: 5})
	}
}

func TestReadEverySource(t *testing.T) {
	for facility := range 24 {
		for severity := range 8 {
			m := Message{Facility: facility, Severity: severity, Text: "t"}
			line, e := Line(m)
			if e != OK {
				t.Fatalf("P4: Line(%+v): %d", m, e)
			}
			mustRead(t, line, 2024, m)
			head, _, _ := strings.Cut(line, ">")
			mustRead(t, head+">t", 2024, m)
		}
	}
}

func TestReadSourceThatIsNone(t *testing.T) {
	for _, head := range []string{"<192>", "<200>", "<999>", "<1000>", "<00>", "<01>", "<034>", "<000>", "<>", "< 1>", "<1 >", "<+1>", "<-1>", "<a>", "<1", "<", "1>", " <1>", "<<1>", "<99999999999999999999>"} {
		for _, rest := range []string{"", "x", "1 - - - - - -"} {
			mustRead(t, head+rest, 2024, Message{Facility: 1, Severity: 5, Text: head + rest})
		}
		mustRefuse(t, head+"\t", 2024, ErrText, 0)
	}
}

func TestReadFormIsTold(t *testing.T) {
	// Only a 1 with a blank behind it makes the form new.
	for _, rest := range []string{"1", "11 - - - - - -", "2 - - - - - -", " 1 - - - - - -", "01 - - - - - -"} {
		mustRead(t, "<34>"+rest, 2024, Message{Facility: 4, Severity: 2, Text: rest})
	}
	mustRead(t, "1 - - - - - -", 2024, Message{Facility: 1, Severity: 5, Text: "1 - - - - - -"})
	mustRead(t, "<34>1: x", 2024, Message{Facility: 4, Severity: 2, App: "1", Text: "x"})
	mustRefuse(t, "<34>1 ", 2024, ErrTime, 6)
	mustRefuse(t, "<34>1\t", 2024, ErrText, 4)
}

func TestReadNewWhole(t *testing.T) {
	mustRead(t, `<34>1 2003-10-11T22:14:15.003Z mymachine su - ID47 - it failed`, 1, Message{Facility: 4, Severity: 2, Time: "2003-10-11T22:14:15.003Z", Host: "mymachine", App: "su", Id: "ID47", Text: "it failed"})
	mustRead(t, `<0>1 2000-03-01T00:30:00.500+01:00 - - - - [a b="c\]"][d]`, 1, Message{Time: "2000-02-29T23:30:00.5Z", Data: `[a b="c\]"][d]`})
	mustRead(t, `<165>1 2003-10-11T22:14:15Z h a p i [x] t`, 1, Message{Facility: 20, Severity: 5, Time: "2003-10-11T22:14:15Z", Host: "h", App: "a", Proc: "p", Id: "i", Data: "[x]", Text: "t"})
	mustRead(t, `<0>1 - -- --- !~ -x - -`, 1, Message{Host: "--", App: "---", Proc: "!~", Id: "-x", Text: "-"})
	mustRead(t, "<0>1 - - - - - -  ", 1, Message{Text: " "})
	mustRead(t, "<0>1 - - - - - - \u00e9\U0010ffff", 1, Message{Text: "\u00e9\U0010ffff"})
	for i, kind := range wordKinds {
		words := []string{"-", "-", "-", "-"}
		words[i] = strings.Repeat("w", kind.most)
		m, e, at := Read("<0>1 - "+strings.Join(words, " ")+" -", 1)
		if got := [...]string{m.Host, m.App, m.Proc, m.Id}; e != OK || at != 0 || got[i] != words[i] {
			t.Errorf("P3: word %d: %+v, %d, %d", i, m, e, at)
		}
	}
}

func TestReadNewFirstWrongPart(t *testing.T) {
	const line = "<34>1 - - - - - - t"
	errs := []Errno{ErrTime, ErrHost, ErrApp, ErrProc, ErrId, ErrData}
	for i, e := range errs {
		at := len("<34>1 ") + 2*i
		// Whatever is wrong behind it, the first is told.
		mustRefuse(t, line[:at]+"\x01"+strings.Repeat(" \x01", len(errs)-i), 2024, e, at)
		// A part may be empty, or cut off with its blank or without.
		mustRefuse(t, line[:at]+" "+line[at+1:], 2024, e, at)
		mustRefuse(t, line[:at], 2024, e, at)
		if i > 0 {
			mustRefuse(t, line[:at-1], 2024, e, at-1)
		}
	}
	for i, kind := range wordKinds {
		at := len("<34>1 - ") + 2*i
		for _, word := range []string{strings.Repeat("w", kind.most+1), "a\x7fb", "a\x1fb", "\u00e9", "\x80"} {
			mustRefuse(t, line[:at]+word+line[at+1:], 2024, kind.none, at)
		}
	}
}

func TestReadNewText(t *testing.T) {
	const head = "<0>1 - - - - - "
	for _, bad := range []string{"\x00", "\n", "\x1f", "\x7f", "\x80", "\xff", "\xc3", "\xc0\x80", "\xe0\x80\x80", "\xed\xa0\x80", "\xed\xbf\xbf", "\xf4\x90\x80\x80", "\xf0\x80\x80\x80"} {
		mustRefuse(t, head+"- "+bad, 2024, ErrText, len(head)+2)
		mustRefuse(t, head+"- ab"+bad+"c", 2024, ErrText, len(head)+2)
		mustRefuse(t, head+"[a][b] x"+bad, 2024, ErrText, len(head)+7)
		mustRefuse(t, "<13>su: x"+bad, 2024, ErrText, 4)
		mustRefuse(t, "x"+bad, 2024, ErrText, 0)
	}
	for _, good := range []string{" ", "~", "\u0080", "\u07ff", "\u0800", "\ud7ff", "\ue000", "\ufffd", "\uffff", "\U00010000", "\U0010ffff"} {
		mustRead(t, head+"- "+good, 2024, Message{Text: good})
		mustRead(t, good, 2024, Message{Facility: 1, Severity: 5, Text: good})
	}
}

func TestReadOldTimeAndHost(t *testing.T) {
	source := Message{Facility: 1, Severity: 5}
	for i, month := range []string{"Jan", "Feb", "Mar", "Apr", "May", "Jun", "Jul", "Aug", "Sep", "Oct", "Nov", "Dec"} {
		want := source
		want.Time, want.Host, want.Text = "0007-"+[]string{"01", "02", "03", "04", "05", "06", "07", "08", "09", "10", "11", "12"}[i]+"-09T01:02:03Z", "h", "x"
		mustRead(t, month+"  9 01:02:03 h x", 7, want)
	}
	want := source
	want.Time, want.Host = "2024-02-29T23:59:59Z", strings.Repeat("h", 32)
	mustRead(t, "Feb 29 23:59:59 "+want.Host+" ", 2024, want)
	want.Time, want.Text = "2024-12-10T00:00:00Z", " a b: c"
	mustRead(t, "Dec 10 00:00:00 "+want.Host+"  a b: c", 2024, want)
	for _, line := range []string{
		"Feb 29 17:32:18 h x", "Feb 30 17:32:18 h x", "Apr 31 17:32:18 h x", "Jan 32 17:32:18 h x", "Jan  0 17:32:18 h x", "Jan 00 17:32:18 h x",
		"Jan 05 17:32:18 h x", "Jan 5  17:32:18 h x", "Jan 5 17:32:18 h x", "Jan   17:32:18 h x", "jan  5 17:32:18 h x", "JAN  5 17:32:18 h x", "Jam  5 17:32:18 h x",
		"Jan  5 24:00:00 h x", "Jan  5 17:60:18 h x", "Jan  5 17:32:60 h x", "Jan  5  7:32:18 h x", "Jan  5 17.32.18 h x", "Jan  5 17:32:18.1 h x", "Jan  5 17:32:18Z h x",
		"Jan- 5 17:32:18 h x", "Jan  5-17:32:18 h x", "Jan  5 17:32:18-h x",
		"Jan  5 17:32:18 h", "Jan  5 17:32:18 ", "Jan  5 17:32:18", "Jan  5 17:32:1", "Jan", "Jan  5 17:32:18  x", "Jan  5 17:32:18 - x", "Jan  5 17:32:18 \u00e9 x", "Jan  5 17:32:18 " + strings.Repeat("h", 33) + " x",
	} {
		want := source
		want.Text = line
		mustRead(t, line, 2023, want)
	}
}

func TestReadOldTag(t *testing.T) {
	full := "azAZ09-_./azAZ09"
	for _, c := range []struct{ line, app, proc, text string }{
		{"su: x", "su", "", "x"}, {"su:x", "su", "", "x"}, {"su:  x", "su", "", " x"}, {"su:", "su", "", ""}, {"su: ", "su", "", ""},
		{"su[1]: x", "su", "1", "x"}, {"su[00000000]:x", "su", "00000000", "x"}, {full + "[12345678]: a: b", full, "12345678", "a: b"},
		{"-_: x", "-_", "", "x"}, {".: x", ".", "", "x"}, {"a:b:c", "a", "", "b:c"},
		{"-: x", "", "", "-: x"}, {"-[1]: x", "", "", "-[1]: x"}, {": x", "", "", ": x"}, {"[1]: x", "", "", "[1]: x"}, {full + "x: y", "", "", full + "x: y"},
		{"su x", "", "", "su x"}, {"su", "", "", "su"}, {" su: x", "", "", " su: x"}, {"s u: x", "", "", "s u: x"}, {"s@u: x", "", "", "s@u: x"}, {"s`u: x", "", "", "s`u: x"}, {"s{: x", "", "", "s{: x"}, {"s[: x", "", "", "s[: x"}, {"s\u00e9: x", "", "", "s\u00e9: x"},
		{"su[]: x", "", "", "su[]: x"}, {"su[123456789]: x", "", "", "su[123456789]: x"}, {"su[1: x", "", "", "su[1: x"}, {"su[1]", "", "", "su[1]"}, {"su[1] : x", "", "", "su[1] : x"}, {"su[a]: x", "", "", "su[a]: x"}, {"su[1][2]: x", "", "", "su[1][2]: x"}, {"su[-1]: x", "", "", "su[-1]: x"}, {"su[", "", "", "su["},
	} {
		want := Message{Facility: 1, Severity: 5, App: c.app, Proc: c.proc, Text: c.text}
		mustRead(t, c.line, 2024, want)
		want.Facility, want.Severity, want.Time, want.Host = 0, 0, "2024-01-05T17:32:18Z", "h"
		mustRead(t, "<0>Jan  5 17:32:18 h "+c.line, 2024, want)
	}
}
