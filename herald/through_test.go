package herald

import (
	"math/rand/v2"
	"slices"
	"strconv"
	"strings"
	"testing"
)

// The tests of P9, a part for each of its sentences; FuzzFeed, FuzzRead, FuzzLine and FuzzOpen look further.

// mustFeedInPieces cuts wherever the bit of a place is set.
func mustFeedInPieces(t *testing.T, bound int, text string, cuts int, want []string, left int) {
	t.Helper()
	f := mustFrames(t, bound)
	var told []string
	n, from := 0, 0
	for to := 1; to <= len(text); to++ {
		if to < len(text) && cuts>>(to-1)&1 == 0 {
			continue
		}
		var some []string
		some, n = f.Feed(text[from:to])
		told, from = append(told, some...), to
	}
	if !slices.Equal(told, want) || n != left {
		t.Fatalf("P9: bound %d, %q cut at the bits of %b: %q, %d, want %q, %d", bound, text, cuts, told, n, want, left)
	}
}

// Every text of a few bytes that frames are made of, cut in every way.
func TestShortTextsCutAnywhere(t *testing.T) {
	const marks, most = "012 a\n", 5
	texts := []string{""}
	for i := 0; i < len(texts); i++ {
		text := texts[i]
		for _, bound := range []int{1, 2, 11} {
			want, left := framesAtOnce(text, bound)
			for cuts := range 1 << max(0, len(text)-1) {
				mustFeedInPieces(t, bound, text, cuts, want, left)
			}
		}
		for at := range len(marks) {
			if len(text) < most {
				texts = append(texts, text+marks[at:at+1])
			}
		}
	}
}

// A long text with frames of every kind, cut at every three places.
func TestLongTextCutAnywhere(t *testing.T) {
	const bound = 12
	text := "3 abcx y\n1\n\n12 abc\ndef\nghij13 x\nabcdefghijklm\n0\n 1 a\n2x\n\n\xff\x00\n1 \n12\nabcdefghijkl\n10 z"
	want := []string{"=abc", "=x y", "!", "=abc\ndef\nghij", "!", "!", "=0", "= 1 a", "!", "=\xff\x00", "=\n", "!", "=abcdefghijkl"}
	mustFeed(t, mustFrames(t, bound), text, 4, want...)
	for first := range len(text) {
		for second := first; second < len(text); second++ {
			for third := second; third < len(text); third++ {
				f := mustFrames(t, bound)
				var told []string
				for _, piece := range []string{text[:first], text[first:second], text[second:third]} {
					some, _ := f.Feed(piece)
					told = append(told, some...)
				}
				some, left := f.Feed(text[third:])
				if told = append(told, some...); !slices.Equal(told, want) || left != 4 {
					t.Fatalf("P9: cut at %d, %d and %d: %q, %d", first, second, third, told, left)
				}
			}
		}
	}
}

// Parts that a message may have, each with what is not told, the shortest, the longest, and what is nearly another part.
var (
	someTimes = []string{"", "0001-01-01T00:00:00Z", "9999-12-31T23:59:59.999999Z", "2000-02-29T12:00:00.000001Z", "1900-02-28T00:00:00.5Z"}
	someHosts = []string{"", "h", "--", "[a]", `"\=`, strings.Repeat("h", 32)}
	someApps  = []string{"", "a", "<0>1", ":", strings.Repeat("~", 16)}
	someProcs = []string{"", "0", "!-", strings.Repeat("9", 16)}
	someIds   = []string{"", "i", "1", "-i", strings.Repeat("]", 12)}
	someData  = []string{"", "[a]", "[-]", `[a b=""]`, `[a b="c" b="c"][b b="\"\\\] ="]`, `[\ \="é - ["][[]`, "[" + strings.Repeat("n", 12) + " " + strings.Repeat("m", 12) + `="` + "\U0010ffff" + `"]`}
	someTexts = []string{"", " ", "-", "  -  ", "[a]", "é \u0080\ufffd", "<13>Feb  5 17:32:18 host su[230]: hello", strings.Repeat("x", 37)}
)

func pick(random *rand.Rand, some []string) string { return some[random.IntN(len(some))] }

func randomMessage(random *rand.Rand) Message {
	return Message{
		Facility: random.IntN(24), Severity: random.IntN(8), Time: pick(random, someTimes), Host: pick(random, someHosts), App: pick(random, someApps),
		Proc: pick(random, someProcs), Id: pick(random, someIds), Data: pick(random, someData), Text: pick(random, someTexts),
	}
}

func TestWrittenIsReadAsItIs(t *testing.T) {
	random := rand.New(rand.NewPCG(11, 12))
	written := 0
	for range 50000 {
		m := randomMessage(random)
		line, e := Line(m)
		if e != OK {
			if e != ErrLong {
				t.Fatalf("P4: Line(%+v) = %d", m, e)
			}
			continue
		}
		written++
		for _, year := range []int{1, 2023, 9999} {
			if again, e, at := Read(line, year); again != m || e != OK || at != 0 {
				t.Fatalf("P9: Read(%q, %d) = %+v, %d, %d, written from %+v", line, year, again, e, at, m)
			}
		}
	}
	if written < 10000 {
		t.Errorf("only %d messages were written", written)
	}
}

// What is written of a line that can be read stands for the same message, and is written as it is from then on.
func TestReadIsWritten(t *testing.T) {
	for line, want := range map[string]string{
		"": "<13>1 - - - - - -", "-": "<13>1 - - - - - - -", "<34>1": "<34>1 - - - - - - 1", "<0>": emptyLine, "<0> ": emptyLine + "  ",
		"<34>1 - - - - - - ":  "<34>1 - - - - - -",
		"<34>1 - - - - - -  ": "<34>1 - - - - - -  ",
		"<0>1 2000-03-01T00:30:00.500+01:00 - - - - [a b=\"\\]\"]": "<0>1 2000-02-29T23:30:00.5Z - - - - [a b=\"\\]\"]",
		"<0>1 2000-12-31T23:30:00.000000-00:30 h a p i -":          "<0>1 2001-01-01T00:00:00Z h a p i -",
		"<13>Feb  5 17:32:18 host su[230]: hello":                  "<13>1 2024-02-05T17:32:18Z host su 230 - - hello",
		"<13>Feb 30 17:32:18 h x":                                  "<13>1 - - - - - - Feb 30 17:32:18 h x",
		"cron: x":                                                  "<13>1 - - cron - - - x",
		"cron:":                                                    "<13>1 - - cron - - -",
		"cron:  <0>1 - - - - - -":                                  "<13>1 - - cron - - -  <0>1 - - - - - -",
		"<192>1 - - - - - -":                                       "<13>1 - - - - - - <192>1 - - - - - -",
	} {
		m, e, _ := Read(line, 2024)
		if e != OK {
			t.Errorf("P9: Read(%q) = %d", line, e)
		}
		mustWrite(t, m, want)
		if again, e, at := Read(want, 1); again != m || e != OK || at != 0 {
			t.Errorf("P9: Read(%q) = %+v, %d, %d, want %+v", want, again, e, at, m)
		}
	}
}

// Old lines of every length: Line writes them as long as their new form is not too long, and has no other error.
func TestReadIsWrittenUpToTheBound(t *testing.T) {
	for _, head := range []string{"", "<0>", "<191>", "<13>Feb  5 17:32:18 host su[230]: ", "cron: "} {
		for length := range 201 - len(head) {
			line := head + strings.Repeat("x", length)
			m, e, _ := Read(line, 2024)
			bare := m
			bare.Text = ""
			ahead, _ := Line(bare)
			want := ErrLong
			if len(ahead)+1+len(m.Text) <= 200 {
				want = OK
			}
			written, e2 := Line(m)
			if e != OK || e2 != want {
				t.Fatalf("P9: %q: read %d, written %d, want %d", line, e, e2, want)
			}
			if again, e, _ := Read(written, 1); e2 == OK && (again != m || e != OK) {
				t.Fatalf("P9: %q is read as %+v, written %q, read %+v, %d", line, m, written, again, e)
			}
		}
	}
}

// Logs that calls have made, cut off anywhere: what was whole of them is what they were after fewer calls.
func TestLogsCutOffAnywhere(t *testing.T) {
	random := rand.New(rand.NewPCG(13, 14))
	for range 40 {
		room := 1 + random.IntN(8)
		l := mustOpen(t, "", room)
		logs, waiting := []string{""}, [][]string{nil}
		for range 25 {
			if random.IntN(3) > 0 {
				l.Put(randomMessage(random))
			} else {
				l.Ack(random.IntN(26))
			}
			if l.Bytes() != logs[len(logs)-1] {
				logs, waiting = append(logs, l.Bytes()), append(waiting, l.Waiting())
			}
		}
		log, whole := l.Bytes(), 0
		for end := range len(log) + 1 {
			if whole+1 < len(logs) && len(logs[whole+1]) == end {
				whole++
			}
			mustHave(t, mustOpen(t, log[:end], room), logs[whole], waiting[whole]...)
		}
	}
}

// Bytes that are relayed in pieces, kept, cut off, opened and relayed anew come through as they are.
func TestThroughAnotherRelay(t *testing.T) {
	random := rand.New(rand.NewPCG(15, 16))
	for range 300 {
		first, bytes := newRelay(t, 200, "", 8), ""
		for range 8 {
			if line, e := Line(randomMessage(random)); e == OK {
				bytes += strconv.Itoa(len(line)) + " " + line
			}
		}
		for _, piece := range cutAtRandom(random, bytes) {
			Relay(first.f, first.r, first.l, piece, 2024)
		}
		opened := mustOpen(t, first.l.Bytes()+"P\x00\x10<0>1 -", 8)
		second := newRelay(t, 200, "", 8)
		told := []string{}
		for i := range opened.Waiting() {
			told = append(told, "kept "+strconv.Itoa(i+1))
		}
		second.mustTell(t, strings.Join(append(opened.Waiting(), ""), "\n"), 1, told...)
		mustHave(t, second.l, first.l.Bytes(), first.l.Waiting()...)
	}
}
