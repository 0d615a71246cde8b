package herald

import (
	"math"
	"math/rand/v2"
	"slices"
	"strconv"
	"strings"
	"testing"
)

// relay is what Relay goes through, held together for the tests.
type relay struct {
	f *Frames
	r *Rules
	l *Log
}

func newRelay(t *testing.T, bound int, rules string, room int) relay {
	t.Helper()
	return relay{mustFrames(t, bound), mustRules(t, rules), mustOpen(t, "", room)}
}

func (one relay) mustTell(t *testing.T, bytes string, year int, lines ...string) {
	t.Helper()
	want := ""
	for _, line := range lines {
		want += line + "\n"
	}
	if told, e := Relay(one.f, one.r, one.l, bytes, year); told != want || e != OK {
		t.Errorf("P8: Relay(%.200q, %d) = %.300q, %d, want %.300q", bytes, year, told, e, want)
	}
}

func TestRelayNothing(t *testing.T) {
	one := newRelay(t, 9, "", 1)
	for _, bytes := range []string{"", "\n", "\n\n\n", "x", "", "y"} {
		one.mustTell(t, bytes, 1)
		mustHave(t, one.l, "")
	}
	mustFeed(t, one.f, "", 2)
	one.mustTell(t, "\n", 1, "kept 1")
	mustHave(t, one.l, byHand('P', "<13>1 - - - - - - xy"), "<13>1 - - - - - - xy")
}

func TestRelayBad(t *testing.T) {
	one := newRelay(t, 4, "*.* drop\n", 1)
	one.mustTell(t, "5", 1, "bad")
	one.mustTell(t, "x\n4x", 1, "bad")
	one.mustTell(t, "\n1\nabcd", 1, "bad")
	one.mustTell(t, "e", 1, "bad")
	one.mustTell(t, "fgh\n!\n=\n\n2 !=12\n9\nbad\n", 1, "dropped", "dropped", "dropped", "bad", "bad", "dropped")
	mustHave(t, one.l, "")
}

// Every error of Read that a frame can have; none is too long for Read, as the bound is not above MaxLine.
func TestRelayReadErrors(t *testing.T) {
	frames := map[Errno][]string{
		ErrTime: {"<34>1 ", "<34>1 x", "<34>1 2003-10-11 ..", "<34>1 2023-02-29T00:00:00Z - - - - -"},
		ErrHost: {"<34>1 -", "<34>1 - " + strings.Repeat("h", 33) + " - - - -"},
		ErrApp:  {"<34>1 - -", "<34>1 - - " + strings.Repeat("a", 17) + " - - -"},
		ErrProc: {"<34>1 - - -", "<34>1 - - - \x7f - -"},
		ErrId:   {"<34>1 - - - -", "<34>1 - - - - 1234567890123 -"},
		ErrData: {"<34>1 - - - - -", "<34>1 - - - - - [", "<34>1 - - - - - -x", "<34>1 - - - - - [a][a]"},
		ErrText: {"\x00", "<34>\x7f", "\xff", "a\tb", "<34>1 - - - - - - \x1f", strings.Repeat("x", 199) + "\x80"},
	}
	// What can't be read is told as such, whatever the rules say and however full the log is.
	for _, rules := range []string{"", "*.* keep\n", "*.* drop\n"} {
		one := newRelay(t, 200, rules, 1)
		one.l.Put(Message{})
		for e, some := range frames {
			for _, frame := range some {
				want := "error " + strconv.Itoa(int(e))
				one.mustTell(t, frame+"\n", 2024, want)
				one.mustTell(t, strconv.Itoa(len(frame))+" "+frame, 2024, want)
			}
		}
		one.mustTell(t, "1 \n2 a\n", 2024, "error 9", "error 9")
		mustHave(t, one.l, emptyRecord, emptyLine)
	}
}

// The numbers are those of the document, not names or places.
func TestRelayErrorNumbers(t *testing.T) {
	one := newRelay(t, 200, "", 1)
	one.mustTell(t, "<0>1 \n<0>1 -\n<0>1 - -\n<0>1 - - -\n<0>1 - - - -\n<0>1 - - - - -\n<0>\x01\n", 1, "error 3", "error 4", "error 5", "error 6", "error 7", "error 8", "error 9")
	one.mustTell(t, "200 "+strings.Repeat("x", 200)+"a\nb\n", 1, "error 1", "kept 1", "error 12")
}

func TestRelayDropped(t *testing.T) {
	one := newRelay(t, 200, "mail,news.=info drop\n*.err keep\n*.* drop\n", 8)
	one.mustTell(t, "<22>a\n<19>b\n<4>c\nd\n<191>1 - - - - - - e\n<0>1 - - - - - - f\n", 1, "dropped", "kept 1", "dropped", "dropped", "dropped", "kept 2")
	mustHave(t, one.l, byHand('P', "<19>1 - - - - - - b")+byHand('P', emptyLine+" f"), "<19>1 - - - - - - b", emptyLine+" f")
	for facility := range 24 {
		for severity := range 8 {
			frame := "<" + strconv.Itoa(8*facility+severity) + ">x\n"
			one := newRelay(t, 9, "daemon,local3.warning drop\n*.=debug drop\n", 8)
			if (facility == 3 || facility == 19) && severity <= 4 || severity == 7 {
				one.mustTell(t, frame, 1, "dropped")
			} else {
				one.mustTell(t, frame, 1, "kept 1")
			}
		}
	}
}

// What is dropped is not Put, so it has none of Put's errors.
func TestRelayDroppedAheadOfPut(t *testing.T) {
	one := newRelay(t, 200, "mail.* drop\n", 1)
	long := strings.Repeat("x", 190)
	one.mustTell(t, "<16>"+long+"\n<8>"+long+"\n<8>a\n<16>b\n<8>c\n<16>"+long+"\n", 1, "dropped", "error 1", "kept 1", "dropped", "error 12", "dropped")
	mustHave(t, one.l, byHand('P', "<8>1 - - - - - - a"), "<8>1 - - - - - - a")
}

func TestRelayLongLines(t *testing.T) {
	one := newRelay(t, 200, "", 2)
	// The new form of an old line has more bytes: `<13>1 - - - - - - ` is ahead of its text.
	longest := strings.Repeat("x", 200-len("<13>1 - - - - - - "))
	one.mustTell(t, longest+"x\n"+longest+"\n", 1, "error 1", "kept 1")
	line := emptyLine + " " + strings.Repeat("é", 91) + "y"
	one.mustTell(t, "200 "+line, 1, "kept 2")
	// Line's error is the first of Put's, also where there is no room.
	one.mustTell(t, longest+"x\n"+longest+"\n", 1, "error 1", "error 12")
	mustHave(t, one.l, byHand('P', "<13>1 - - - - - - "+longest)+byHand('P', line), "<13>1 - - - - - - "+longest, line)
}

func TestRelayRoom(t *testing.T) {
	for room := 1; room <= 8; room++ {
		one := newRelay(t, 20, "mail.* drop\n", room)
		bytes, log, n := "", "", 0
		var lines, told []string
		for turn := range 3 {
			bytes, told, lines = "", nil, nil
			for range room {
				n++
				text := strconv.Itoa(n) + "."
				bytes += "<0>" + text + "\n"
				told = append(told, "kept "+strconv.Itoa(n))
				lines = append(lines, emptyLine+" "+text)
				log += byHand('P', emptyLine+" "+text)
			}
			one.mustTell(t, bytes+"a\n<16>b\n", 1, append(told, "error 12", "dropped")...)
			mustHave(t, one.l, log, lines...)
			mustAck(t, one.l, n, OK)
			log += ackByHand(n)
			mustHave(t, one.l, log)
			if turn == 2 {
				mustHave(t, mustOpen(t, log, room), log)
			}
		}
		one.mustTell(t, "<0>a", 1)
		one.mustTell(t, "\n", 1, "kept "+strconv.Itoa(n+1))
	}
}

// Some are acknowledged, not all: as many find room as were.
func TestRelayRoomInPart(t *testing.T) {
	one := newRelay(t, 9, "", 3)
	one.mustTell(t, "a\nb\nc\nd\n", 1, "kept 1", "kept 2", "kept 3", "error 12")
	mustAck(t, one.l, 2, OK)
	one.mustTell(t, "e\nf\ng\n", 1, "kept 4", "kept 5", "error 12")
	const head = "<13>1 - - - - - - "
	log := byHand('P', head+"a") + byHand('P', head+"b") + byHand('P', head+"c") + ackByHand(2) + byHand('P', head+"e") + byHand('P', head+"f")
	mustHave(t, one.l, log, head+"c", head+"e", head+"f")
	mustAck(t, one.l, 5, OK)
	one.mustTell(t, "h\n", 1, "kept 6")
}

func TestRelayMostMessages(t *testing.T) {
	log := strings.Repeat(emptyRecord, 65534) + ackByHand(65534)
	one := relay{mustFrames(t, 9), mustRules(t, ""), mustOpen(t, log, 8)}
	one.mustTell(t, "<0>a\n<0>b\n", 1, "kept 65535", "error 12")
	mustAck(t, one.l, 65535, OK)
	one.mustTell(t, "<0>c\n", 1, "error 12")
	mustHave(t, one.l, log+byHand('P', emptyLine+" a")+ackByHand(65535))
}

// A frame is read with the year of the call in which it ends.
func TestRelayYear(t *testing.T) {
	one := newRelay(t, 99, "", 8)
	const stamped = "<0>Feb 29 17:32:18 h su[230]: x"
	one.mustTell(t, stamped+"\n"+stamped, 2024, "kept 1")
	one.mustTell(t, "\n"+stamped, 2023, "kept 2")
	one.mustTell(t, "\n<0>Jan  1 00:00:00 h y\n", 9996, "kept 3", "kept 4")
	one.mustTell(t, "<0>Dec 31 23:59:59 h z\n", 1, "kept 5")
	one.mustTell(t, "<0>Dec 31 23:59:59 h z\n", 9999, "kept 6")
	one.mustTell(t, "<0>1 2003-10-11T22:14:15.50+01:00 - - - - -\n", 9999, "kept 7")
	want := []string{
		"<0>1 2024-02-29T17:32:18Z h su 230 - - x", emptyLine + " Feb 29 17:32:18 h su[230]: x", "<0>1 9996-02-29T17:32:18Z h su 230 - - x", "<0>1 9996-01-01T00:00:00Z h - - - - y",
		"<0>1 0001-12-31T23:59:59Z h - - - - z", "<0>1 9999-12-31T23:59:59Z h - - - - z", "<0>1 2003-10-11T21:14:15.5Z - - - - -",
	}
	if got := one.l.Waiting(); !slices.Equal(got, want) {
		t.Errorf("P8: Waiting() = %q, want %q", got, want)
	}
}

// After a refusal the frames go on where they were, and the log and the rules are the same.
func TestRelayRefused(t *testing.T) {
	one := newRelay(t, 4, "mail.* drop\n", 2)
	begun := []struct {
		bytes string
		left  int
	}{{"", 0}, {"ab", 2}, {"4 a\n", 4}, {"3", 1}, {"2 ", 2}, {"5", 0}, {"\n", 0}}
	one.mustTell(t, "a\n", 1, "kept 1")
	log := one.l.Bytes()
	for _, c := range begun {
		f := mustFrames(t, 4)
		f.Feed(c.bytes)
		for _, year := range []int{math.MinInt, -2024, -1, 0, 10000, 10001, 1<<32 + 1, math.MaxInt} {
			mustNotRelay(t, relay{f, one.r, one.l}, year)
		}
		for _, year := range []int{-1, 0, 1, 2024, 9999, 10000} {
			for _, none := range []relay{{nil, one.r, one.l}, {f, nil, one.l}, {f, one.r, nil}, {nil, nil, one.l}, {nil, one.r, nil}, {f, nil, nil}, {}} {
				mustNotRelay(t, none, year)
			}
		}
		mustFeed(t, f, "", c.left)
		untouched := mustFrames(t, 4)
		untouched.Feed(c.bytes)
		want, left := untouched.Feed("bcd\ne\nf")
		mustFeed(t, f, "bcd\ne\nf", left, want...)
	}
	mustHave(t, one.l, log, "<13>1 - - - - - - a")
	mustKeep(t, one.r, func(facility, severity int) bool { return facility != 2 })
	one.mustTell(t, "b\n", 9999, "kept 2")
}

func mustNotRelay(t *testing.T, one relay, year int) {
	t.Helper()
	for _, bytes := range []string{"", "x\n", "x", "1 x", "5", "\n"} {
		if told, e := Relay(one.f, one.r, one.l, bytes, year); told != "" || e != ErrArg {
			t.Errorf("P8: Relay(%v, %v, %v, %q, %d) = %q, %d", one.f, one.r, one.l, bytes, year, told, e)
		}
	}
}

// Feed and Relay may be called by turns; what Feed tells Relay does not.
func TestRelayBesideFeed(t *testing.T) {
	one := newRelay(t, 9, "", 8)
	mustFeed(t, one.f, "a\nb", 1, "=a")
	one.mustTell(t, "c\nd", 1, "kept 1")
	mustFeed(t, one.f, "\n", 0, "=d")
	mustHave(t, one.l, byHand('P', "<13>1 - - - - - - bc"), "<13>1 - - - - - - bc")
}

// The three hang together only for a call: frames can go on with another log and other rules.
func TestRelayByTurns(t *testing.T) {
	f, g := mustFrames(t, 9), mustFrames(t, 2)
	keep, drop := mustRules(t, ""), mustRules(t, "*.* drop\n")
	l, k := mustOpen(t, "", 1), mustOpen(t, "", 2)
	relay{f, keep, l}.mustTell(t, "aaa\nb", 1, "kept 1")
	relay{g, keep, l}.mustTell(t, "aaa\nb", 1, "bad")
	relay{f, keep, k}.mustTell(t, "b\nc", 1, "kept 1")
	relay{g, drop, l}.mustTell(t, "b\nc", 1, "dropped")
	relay{f, keep, l}.mustTell(t, "c\nd", 1, "error 12")
	relay{g, keep, k}.mustTell(t, "c\nd", 1, "kept 2")
	mustHave(t, l, byHand('P', "<13>1 - - - - - - aaa"), "<13>1 - - - - - - aaa")
	mustHave(t, k, byHand('P', "<13>1 - - - - - - bb")+byHand('P', "<13>1 - - - - - - cc"), "<13>1 - - - - - - bb", "<13>1 - - - - - - cc")
}

func TestRelayManyBytes(t *testing.T) {
	one := newRelay(t, 200, "", 1)
	const count = 1 << 18
	told, e := Relay(one.f, one.r, one.l, strings.Repeat("a\n", count)+strings.Repeat("x", 1<<20), 1)
	if want := "kept 1\n" + strings.Repeat("error 12\n", count-1) + "bad\n"; told != want || e != OK {
		t.Errorf("P8: %d bytes, %d, want %d bytes", len(told), e, len(want))
	}
}

// model plays a relay by what the other tests read by hand.
type model struct {
	rules          string
	room           int
	records, lines []string
	had            int
}

func (one *model) tell(what string, year int) string {
	if what == "!" {
		return "bad\n"
	}
	m, e, _ := readByPattern(what[1:], year)
	if e == OK && !keepsByPattern(one.rules, m.Facility, m.Severity) {
		return "dropped\n"
	}
	line := ""
	if e == OK {
		line, e = Line(m)
	}
	if e == OK && len(one.lines)-one.had >= one.room {
		e = ErrMany
	}
	if e != OK {
		return "error " + strconv.Itoa(int(e)) + "\n"
	}
	one.lines = append(one.lines, line)
	one.records = append(one.records, byHand('P', line))
	return "kept " + strconv.Itoa(len(one.lines)) + "\n"
}

// mustBeRelayed relays each piece with a year of its own, acknowledges all behind every third, and holds all that against the model.
func mustBeRelayed(t *testing.T, bound int, rules string, room int, pieces []string) string {
	t.Helper()
	one, by := newRelay(t, bound, rules, room), &model{rules: rules, room: room}
	all, whole, passed := "", "", 0
	for i, piece := range pieces {
		year := 2020 + i%5
		whole += piece
		found, _ := framesAtOnce(whole, bound)
		want := ""
		for _, what := range found[passed:] {
			want += by.tell(what, year)
		}
		passed = len(found)
		if told, e := Relay(one.f, one.r, one.l, piece, year); told != want || e != OK {
			t.Fatalf("P8: the piece %d of %q, bound %d, rules %q, room %d: %q, %d, want %q", i, pieces, bound, rules, room, told, e, want)
		}
		if i%3 == 2 && len(by.lines) > by.had {
			by.had = len(by.lines)
			by.records = append(by.records, ackByHand(by.had))
			mustAck(t, one.l, by.had, OK)
		}
		mustHave(t, one.l, strings.Join(by.records, ""), by.lines[by.had:]...)
		all += want
	}
	opens(t, one.l.Bytes(), by.records)
	return all
}

// randomBytes has frames of both kinds, mostly right.
func randomBytes(random *rand.Rand) string {
	text := ""
	for range random.IntN(9) {
		line := mutated(random, startLines[random.IntN(len(startLines))])
		switch random.IntN(6) {
		case 0, 1:
			text += strconv.Itoa(len(line)) + " " + line
		case 2:
			text += framePieces[random.IntN(len(framePieces))]
		case 3:
			text += strings.Repeat("long ", 20+random.IntN(22)) + "\n"
		default:
			text += line + "\n"
		}
	}
	return text
}

func cutAtRandom(random *rand.Rand, text string) (pieces []string) {
	for text != "" {
		length := min(len(text), random.IntN(120))
		pieces = append(pieces, text[:length])
		text = text[length:]
	}
	return pieces
}

func TestRelayModel(t *testing.T) {
	random := rand.New(rand.NewPCG(9, 10))
	rules := []string{"", "*.* drop\n", "user.* drop\n", "*.=crit drop\n*.notice keep\n*.* drop\n", "kern,auth.* keep\nlocal7,user.=notice drop\n"}
	seen := map[string]int{}
	for range 4000 {
		pieces := cutAtRandom(random, randomBytes(random))
		told := mustBeRelayed(t, min(200, 60+random.IntN(300)), rules[random.IntN(len(rules))], 1+random.IntN(8), pieces)
		for line := range strings.Lines(told) {
			kind, _, _ := strings.Cut(line, " ")
			seen[kind]++
			seen[line]++
		}
	}
	for _, kind := range []string{"bad\n", "dropped\n", "kept", "error 1\n", "error 3\n", "error 4\n", "error 5\n", "error 6\n", "error 7\n", "error 8\n", "error 9\n", "error 12\n"} {
		if seen[kind] < 10 {
			t.Errorf("only %d were told %q", seen[kind], kind)
		}
	}
}

// How the bytes are cut does not matter to Relay either, as long as the year is the same and nothing is acknowledged between.
func TestRelayCutAnywhere(t *testing.T) {
	text := "<34>1 - h a - - - x\n\n5 <16>b12\n4 <0>c<7>d\n<0>1 x\nlong line above 30 bytes, which is bad\n<0>\x01\n3 <0>6 Feb 29" + "<0>Feb 29 17:32:18 h su: x\ne\nf\ng\nh"
	want := []string{"kept 1", "dropped", "bad", "kept 2", "dropped", "error 3", "bad", "error 9", "kept 3", "kept 4", "kept 5", "error 12", "error 12", "error 12"}
	const rules = "mail.* drop\n*.=debug drop\n"
	whole := newRelay(t, 30, rules, 5)
	whole.mustTell(t, text, 2024, want...)
	for first := range len(text) + 1 {
		for second := first; second <= len(text); second++ {
			one := newRelay(t, 30, rules, 5)
			told := ""
			for _, piece := range []string{text[:first], text[first:second], text[second:]} {
				some, e := Relay(one.f, one.r, one.l, piece, 2024)
				if e != OK {
					t.Fatalf("P8: Relay(%q) = %d", piece, e)
				}
				told += some
			}
			if told != strings.Join(want, "\n")+"\n" {
				t.Fatalf("P9: cut at %d and %d: %q, want %q", first, second, told, want)
			}
			mustHave(t, one.l, whole.l.Bytes(), whole.l.Waiting()...)
			mustFeed(t, one.f, "", 1)
		}
	}
}

func FuzzRelay(f *testing.F) {
	f.Add("<13>Feb 29 17:32:18 host su: hello\n<22>x\n101\n<0>1 x\n5 <8>az", 100, "mail.* drop\n", 2, 7)
	f.Add("200 "+strings.Repeat("w", 200)+strings.Repeat("v", 201)+"\n1\n", 200, "", 8, 50)
	f.Fuzz(func(t *testing.T, text string, bound int, rules string, room, length int) {
		if _, e, _ := NewRules(rules); e != OK || bound < 1 || bound > 200 || room < 1 || room > 8 || length < 1 {
			t.Skip()
		}
		var pieces []string
		for text != "" {
			cut := min(len(text), length)
			pieces, text = append(pieces, text[:cut]), text[cut:]
		}
		mustBeRelayed(t, bound, rules, room, pieces)
	})
}
