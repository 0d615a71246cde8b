package herald

import (
	"fmt"
	"math/rand/v2"
	"regexp"
	"strconv"
	"strings"
	"testing"
	"time"
	"unicode/utf8"
)

var (
	sourcePattern  = regexp.MustCompile(`^<(0|[1-9][0-9]{0,2})>`)
	timePattern    = regexp.MustCompile(`^(\d{4}-\d\d-\d\dT\d\d:\d\d:\d\d)(\.\d{1,6})?(?:Z|([+-])(\d\d):(\d\d))$`)
	dataPattern    = regexp.MustCompile(`^(?:\[[!#-<>-\\^-~]{1,12}(?: [!#-<>-\\^-~]{1,12}="(?:[^"\\\]]|\\["\\\]])*")*\])+`)
	elementPattern = regexp.MustCompile(`\[([!#-<>-\\^-~]{1,12})(?: [!#-<>-\\^-~]{1,12}="(?:[^"\\\]]|\\["\\\]])*")*\]`)
	stampPattern   = regexp.MustCompile(`^([A-Z][a-z]{2} (?: [1-9]|[1-3]\d) \d\d:\d\d:\d\d) ([!-~]{1,32}) `)
	tagPattern     = regexp.MustCompile(`^([-A-Za-z0-9_./]{1,16})(?:\[(\d{1,8})\])?: ?`)
)

func plainByPattern(text string) bool {
	return utf8.ValidString(text) && !strings.ContainsFunc(text, func(r rune) bool { return r < 32 || r == 127 })
}

func timeByPattern(text string) (string, bool) {
	part := timePattern.FindStringSubmatch(text)
	if part == nil {
		return "", false
	}
	at, err := time.Parse("2006-01-02T15:04:05", part[1])
	if err != nil || at.Year() < 1 {
		return "", false
	}
	hours, _ := strconv.Atoi(part[4])
	minutes, _ := strconv.Atoi(part[5])
	if hours > 23 || minutes > 59 {
		return "", false
	}
	back := time.Duration(60*hours+minutes) * time.Minute
	if part[3] == "-" {
		back = -back
	}
	at = at.Add(-back)
	if at.Year() < 1 || at.Year() > 9999 {
		return "", false
	}
	fraction := strings.TrimSuffix(strings.TrimRight(part[2], "0"), ".")
	return at.Format("2006-01-02T15:04:05") + fraction + "Z", true
}

// readByPattern is Read, written anew with what the program may not use, to hold the two against each other.
func readByPattern(line string, year int) (Message, Errno, int) {
	source, rest := 13, line
	if part := sourcePattern.FindStringSubmatch(line); part != nil {
		if n, _ := strconv.Atoi(part[1]); n <= 191 {
			source, rest = n, line[len(part[0]):]
			if strings.HasPrefix(rest, "1 ") {
				return newByPattern(Message{Facility: n / 8, Severity: n % 8}, line, len(part[0])+2)
			}
		}
	}
	m := Message{Facility: source / 8, Severity: source % 8}
	if !plainByPattern(rest) {
		return Message{}, ErrText, len(line) - len(rest)
	}
	if part := stampPattern.FindStringSubmatch(rest); part != nil && part[2] != "-" {
		at, err := time.Parse("2006 Jan _2 15:04:05", fmt.Sprintf("%04d %s", year, part[1]))
		if err == nil {
			m.Time, m.Host, rest = at.Format(inZ), part[2], rest[len(part[0]):]
		}
	}
	if part := tagPattern.FindStringSubmatch(rest); part != nil && part[1] != "-" {
		m.App, m.Proc, rest = part[1], part[2], rest[len(part[0]):]
	}
	m.Text = rest
	return m, OK, 0
}

func newByPattern(m Message, line string, at int) (Message, Errno, int) {
	parts := strings.SplitN(line[at:], " ", 6)
	for i, field := range []*string{&m.Time, &m.Host, &m.App, &m.Proc, &m.Id} {
		part, right := "", false
		if i < len(parts) {
			part = parts[i]
			right = regexp.MustCompile(fmt.Sprintf("^[!-~]{1,%d}$", []int{32, 32, 16, 16, 12}[i])).MatchString(part)
		}
		if part == "-" {
			part = ""
		} else if i == 0 {
			part, right = timeByPattern(part)
		}
		if !right {
			return Message{}, ErrTime + Errno(i), at
		}
		*field = part
		at = min(at+len(parts[i])+1, len(line))
	}
	rest := line[at:]
	data, named := dataPattern.FindString(rest), map[string]bool{}
	for _, part := range elementPattern.FindAllStringSubmatch(data, -1) {
		if named[part[1]] {
			return Message{}, ErrData, at
		}
		named[part[1]] = true
	}
	m.Data = data
	if strings.HasPrefix(rest, "-") {
		data = "-"
	}
	behind := rest[len(data):]
	if data == "" || !plainByPattern(data) || behind != "" && behind[0] != ' ' {
		return Message{}, ErrData, at
	}
	if behind == "" {
		return m, OK, 0
	}
	if !plainByPattern(behind) {
		return Message{}, ErrText, at + len(data) + 1
	}
	m.Text = behind[1:]
	return m, OK, 0
}

// checkBoth holds Read against the patterns, and Line against Read.
func checkBoth(t *testing.T, line string, year int) Errno {
	t.Helper()
	m, e, at := Read(line, year)
	if len(line) > 200 || year < 1 || year > 9999 {
		if m != (Message{}) || e != ErrLong && e != ErrArg || at != 0 {
			t.Fatalf("P3: Read(%q, %d) = %+v, %d, %d", line, year, m, e, at)
		}
		return e
	}
	if m2, e2, at2 := readByPattern(line, year); m != m2 || e != e2 || at != at2 {
		t.Fatalf("P3: Read(%q, %d) = %+v, %d, %d, by patterns %+v, %d, %d", line, year, m, e, at, m2, e2, at2)
	}
	if e != OK {
		return e
	}
	written, e := Line(m)
	if e == ErrLong {
		return OK
	}
	if again, e2, _ := Read(written, 1); e != OK || e2 != OK || again != m {
		t.Fatalf("P9: Read(%q, %d) = %+v, its line %q, %d, read again %+v, %d", line, year, m, written, e, again, e2)
	}
	return OK
}

var startLines = []string{
	"", "<34>1", "<34>1 -", "<34>1 2003-10-11 ..", "cron: x", "<13>Feb 30 17:32:18 h x",
	"<34>1 2003-10-11T22:14:15.003Z mymachine su - ID47 - it failed",
	`<0>1 2000-03-01T00:30:00.500+01:00 - - - - [a b="c\]"][d]`,
	`<191>1 9999-12-31T23:59:59.999999-00:00 host app proc id [a b="c" d="e\\\""][f] text [g]`,
	`<7>1 0001-01-01T00:00:00Z h - p - [a][b][ab x=""] -`,
	"<13>Feb  5 17:32:18 host su[230]: hello", "<0>Dec 31 23:59:59 h a.b/c-d_e[12345678]:x",
	"<13>Feb 29 17:32:18 host-1.example su: \u00e9 [x]: y",
	"Jan 10 00:00:00 h - [1]: x", "<191>1 - - - - - -  ", "<192>1 - - - - - -",
}

// mutated changes a line at a few places; what it puts there is what the forms are made of.
func mutated(random *rand.Rand, line string) string {
	const marks = "<>[]\"\\=-: .+Z0123459JanFeb\n\x7f\xc3\u00e9aT"
	for range random.IntN(4) {
		from := random.IntN(len(line) + 1)
		to := min(len(line), from+random.IntN(3))
		at := random.IntN(len(marks))
		line = line[:from] + marks[at:min(len(marks), at+random.IntN(3))] + line[to:]
	}
	return line
}

func TestReadAgainstPatterns(t *testing.T) {
	random := rand.New(rand.NewPCG(3, 4))
	seen := map[Errno]int{}
	for range 30000 {
		line := mutated(random, startLines[random.IntN(len(startLines))])
		seen[checkBoth(t, line, []int{1, 1900, 2000, 2023, 2024, 9999}[random.IntN(6)])]++
	}
	for _, e := range []Errno{OK, ErrTime, ErrHost, ErrApp, ErrProc, ErrId, ErrData, ErrText} {
		if seen[e] < 10 {
			t.Errorf("only %d lines gave %d", seen[e], e)
		}
	}
}

func FuzzRead(f *testing.F) {
	for _, line := range startLines {
		f.Add(line, 2024)
	}
	f.Add(strings.Repeat("x", 201), 2024)
	f.Add("x", 0)
	f.Fuzz(func(t *testing.T, line string, year int) { checkBoth(t, line, year) })
}

func FuzzLine(f *testing.F) {
	m := fullMessage()
	f.Add(m.Facility, m.Severity, m.Time, m.Host, m.App, m.Proc, m.Id, m.Data, m.Text)
	f.Add(0, 0, "", "", "", "", "", "", "")
	f.Add(24, -1, "-", "-", "-", "-", "-", "-", "\n")
	f.Fuzz(func(t *testing.T, facility, severity int, time, host, app, proc, id, data, text string) {
		m := Message{facility, severity, time, host, app, proc, id, data, text}
		line, e := Line(m)
		if (line == "") != (e != OK) || len(line) > 200 {
			t.Fatalf("P4: Line(%+v) = %q, %d", m, line, e)
		}
		if again, e2, at := Read(line, 1); e == OK && (again != m || e2 != OK || at != 0) {
			t.Fatalf("P9: Line(%+v) = %q, read %+v, %d, %d", m, line, again, e2, at)
		}
	})
}
