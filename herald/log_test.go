package herald

import (
	"math"
	"math/rand/v2"
	"slices"
	"strconv"
	"strings"
	"testing"
)

// The records of a message of noughts, and of the first A, are written out; byHand writes others.
const (
	emptyLine   = "<0>1 - - - - - -"
	emptyRecord = "P\x00\x10" + emptyLine + "\x19\xb3"
	firstAck    = "A\x00\x02\x00\x01EV"
)

// byHand is a record by the document's words, with sums that are brought below 251 at the end alone.
func byHand(kind byte, content string) string {
	whole := []byte{kind, byte(len(content) / 256), byte(len(content) % 256)}
	whole = append(whole, content...)
	a, b := 1, 0
	for _, c := range whole {
		a += int(c)
		b += a
	}
	return string(append(whole, byte(a%251), byte(b%251)))
}

func ackByHand(n int) string {
	return byHand('A', string([]byte{byte(n / 256), byte(n % 256)}))
}

func mustOpen(t *testing.T, log string, room int) *Log {
	t.Helper()
	l, e := Open(log, room)
	if l == nil || e != OK {
		t.Fatalf("P7: Open(%.60q, %d) = %v, %d", log, room, l, e)
	}
	return l
}

func mustHave(t *testing.T, l *Log, bytes string, waiting ...string) {
	t.Helper()
	if got := l.Bytes(); got != bytes {
		t.Errorf("P7: Bytes() = %.300q, want %.300q", got, bytes)
	}
	if got := l.Waiting(); !slices.Equal(got, waiting) {
		t.Errorf("P7: Waiting() = %.300q, want %.300q", got, waiting)
	}
}

func mustPut(t *testing.T, l *Log, m Message, want int) {
	t.Helper()
	if n, e := l.Put(m); n != want || e != OK {
		t.Errorf("P7: Put(%+v) = %d, %d, want %d", m, n, e, want)
	}
}

func mustNotPut(t *testing.T, l *Log, m Message, want Errno) {
	t.Helper()
	if n, e := l.Put(m); n != 0 || e != want {
		t.Errorf("P7: Put(%.80q ..) = %d, %d, want %d", m.Text, n, e, want)
	}
}

func mustAck(t *testing.T, l *Log, n int, want Errno) {
	t.Helper()
	if e := l.Ack(n); e != want {
		t.Errorf("P7: Ack(%d) = %d, want %d", n, e, want)
	}
}

func textMessage(text string) Message { return Message{Text: text} }

func TestRecordsByHand(t *testing.T) {
	if got := byHand('P', emptyLine); got != emptyRecord {
		t.Errorf("a record by hand: %q", got)
	}
	if got := ackByHand(1); got != firstAck {
		t.Errorf("a record by hand: %q", got)
	}
	if got := ackByHand(65535); got != "A\x00\x02\xff\xffLa" {
		t.Errorf("a record by hand: %q", got)
	}
}

func TestOpenRoom(t *testing.T) {
	for _, room := range []int{math.MinInt, -8, -1, 0, 9, 1 << 32, math.MaxInt} {
		for _, log := range []string{"", emptyRecord, "x"} {
			if l, e := Open(log, room); l != nil || e != ErrArg {
				t.Errorf("P7: Open(%q, %d) = %v, %d", log, room, l, e)
			}
		}
	}
	for room := 1; room <= 8; room++ {
		l := mustOpen(t, "", room)
		mustHave(t, l, "")
		for n := 1; n <= room; n++ {
			mustPut(t, l, Message{}, n)
		}
		mustNotPut(t, l, Message{}, ErrMany)
		mustHave(t, l, strings.Repeat(emptyRecord, room), slices.Repeat([]string{emptyLine}, room)...)
		mustAck(t, l, 1, OK)
		mustPut(t, l, Message{}, room+1)
		mustNotPut(t, l, Message{}, ErrMany)
	}
}

func TestPut(t *testing.T) {
	l := mustOpen(t, "", 8)
	mustPut(t, l, Message{}, 1)
	mustHave(t, l, emptyRecord, emptyLine)
	full := `<165>1 2003-10-11T22:14:15.003Z h a p i [x y="z"] t u`
	mustPut(t, l, fullMessage(), 2)
	mustHave(t, l, emptyRecord+byHand('P', full), emptyLine, full)
	longest := strings.Repeat("é", 91) + "x"
	mustPut(t, l, textMessage(longest), 3)
	mustHave(t, l, emptyRecord+byHand('P', full)+byHand('P', emptyLine+" "+longest), emptyLine, full, emptyLine+" "+longest)
}

// Errors of Line come ahead of ErrMany, and none changes the log.
func TestPutErrors(t *testing.T) {
	l := mustOpen(t, "", 1)
	for range 2 {
		for _, c := range []struct {
			m    Message
			want Errno
		}{
			{Message{Facility: 24, Time: "x"}, ErrSource}, {Message{Facility: -1}, ErrSource}, {Message{Severity: 8}, ErrSource}, {Message{Time: "x", Host: "-"}, ErrTime},
			{Message{Time: "2003-10-11T22:14:15+01:00"}, ErrTime}, {Message{Host: "-"}, ErrHost}, {Message{App: "-"}, ErrApp}, {Message{Proc: "-"}, ErrProc}, {Message{Id: "-"}, ErrId},
			{Message{Data: "-"}, ErrData}, {Message{Data: "[a][a]"}, ErrData}, {textMessage("\n"), ErrText}, {textMessage("\xff"), ErrText}, {textMessage(strings.Repeat("x", 184)), ErrLong},
		} {
			mustNotPut(t, l, c.m, c.want)
		}
		if l.Bytes() == "" {
			mustHave(t, l, "")
			mustPut(t, l, Message{}, 1)
		}
		mustHave(t, l, emptyRecord, emptyLine)
	}
	mustNotPut(t, l, Message{}, ErrMany)
	mustHave(t, l, emptyRecord, emptyLine)
}

func TestAck(t *testing.T) {
	l := mustOpen(t, "", 8)
	wrong := func(numbers ...int) {
		t.Helper()
		bytes, waiting := l.Bytes(), l.Waiting()
		for _, n := range append(numbers, math.MinInt, -65535, -1, 0, 65536, 1<<32+1, math.MaxInt) {
			mustAck(t, l, n, ErrArg)
		}
		mustHave(t, l, bytes, waiting...)
	}
	wrong(1, 2)
	log := ""
	for i, text := range []string{"a", "b", "c", "d", "e"} {
		mustPut(t, l, textMessage(text), i+1)
		log += byHand('P', emptyLine+" "+text)
	}
	wrong(6, 7)
	mustAck(t, l, 2, OK)
	log += ackByHand(2)
	mustHave(t, l, log, emptyLine+" c", emptyLine+" d", emptyLine+" e")
	wrong(1, 2, 6)
	mustAck(t, l, 3, OK)
	log += ackByHand(3)
	mustHave(t, l, log, emptyLine+" d", emptyLine+" e")
	mustAck(t, l, 5, OK)
	log += ackByHand(5)
	mustHave(t, l, log)
	wrong(4, 5, 6)
	mustPut(t, l, textMessage("f"), 6)
	mustHave(t, l, log+byHand('P', emptyLine+" f"), emptyLine+" f")
	wrong(5, 7)
	mustAck(t, l, 6, OK)
	mustHave(t, l, log+byHand('P', emptyLine+" f")+ackByHand(6))
}

// someRecords are right, one behind the other, with an A among them that leaves messages waiting.
func someRecords() []string {
	return []string{
		emptyRecord, byHand('P', `<165>1 2003-10-11T22:14:15.003Z h a p i [x y="z\]"] t u`), firstAck, byHand('P', emptyLine+" é"), ackByHand(3), byHand('P', emptyLine+" b"), byHand('P', emptyLine),
	}
}

func TestOpenAgain(t *testing.T) {
	log := strings.Join(someRecords(), "")
	l := mustOpen(t, log, 3)
	mustHave(t, l, log, emptyLine+" b", emptyLine)
	mustAck(t, l, 3, ErrArg)
	mustAck(t, l, 6, ErrArg)
	mustPut(t, l, Message{}, 6)
	mustNotPut(t, l, Message{}, ErrMany)
	mustAck(t, l, 6, OK)
	mustHave(t, l, log+emptyRecord+ackByHand(6))
	mustHave(t, mustOpen(t, l.Bytes(), 1), l.Bytes())
}

// opens holds the log that is opened against the records that must be left of it.
func opens(t *testing.T, log string, records []string) {
	t.Helper()
	var lines []string
	had := 0
	for _, one := range records {
		if content := one[3 : len(one)-2]; one[0] == 'P' {
			lines = append(lines, content)
		} else {
			had = int(content[0])*256 + int(content[1])
		}
	}
	l := mustOpen(t, log, 8)
	mustHave(t, l, strings.Join(records, ""), lines[had:]...)
}

// P9: a log that is cut off anywhere opens as what was whole of it.
func TestOpenCutOff(t *testing.T) {
	records := someRecords()
	log := strings.Join(records, "")
	for end := range len(log) + 1 {
		whole, length := 0, 0
		for whole < len(records) && length+len(records[whole]) <= end {
			length += len(records[whole])
			whole++
		}
		opens(t, log[:end], records[:whole])
	}
}

// A byte that is another one ends the log ahead of its record.
func TestOpenSpoilt(t *testing.T) {
	records := someRecords()
	log := []byte(strings.Join(records, ""))
	at := 0
	for i, one := range records {
		for range len(one) {
			right := log[at]
			for change := 1; change < 256; change++ {
				log[at] = right ^ byte(change)
				opens(t, string(log), records[:i])
			}
			log[at] = right
			at++
		}
	}
}

// A byte that is too many or missing ends it there, too.
func TestOpenShifted(t *testing.T) {
	records := someRecords()
	log := strings.Join(records, "")
	at := 0
	for i, one := range records {
		for range len(one) {
			opens(t, log[:at]+"\x00"+log[at:], records[:i])
			opens(t, log[:at]+"x"+log[at:], records[:i])
			if at+1 < len(log) && log[at] != log[at+1] {
				opens(t, log[:at]+log[at+1:], records[:i])
			}
			at++
		}
	}
	for _, behind := range []string{"\x00", "P", "A", "x", "\n", "P\x00\x00", "A\x00\x00", "PP", strings.Repeat("\x00", 9), strings.Repeat("\xff", 70000)} {
		opens(t, log+behind, records)
	}
}

func TestOpenLines(t *testing.T) {
	for _, line := range []string{
		emptyLine, "<191>1 - - - - - -", "<0>1 - - - - - -  ", "<0>1 - - - - - - -", "<0>1 9999-12-31T23:59:59.999999Z h a p i [a][b] é", "<8>1 0001-01-01T00:00:00Z - - - - -",
		`<9>1 - - - - - [a b="\"\\\]"]`, emptyLine + " " + strings.Repeat("x", 183), "<1>1 2000-02-29T00:00:00.5Z - - - - -",
	} {
		opens(t, byHand('P', line)+emptyRecord, []string{byHand('P', line), emptyRecord})
	}
	for _, line := range []string{
		"", "x", "-", "<0>", "<0>1", "<13>Feb  5 17:32:18 host su[230]: hello", "cron: x", "<192>1 - - - - - -", "<00>1 - - - - - -", "<0>2 - - - - - -", " " + emptyLine, emptyLine + " ", emptyLine + "\n", emptyLine + "x",
		"<0>1 - - - - -", "<0>1 - - - - - - \x7f", "<0>1 - - - - - - \xc0\x80", "<0>1 - - - - - [a][a]", `<0>1 - - - - - [a b="]"]`, "<0>1 - - - - - []", "<0>1  - - - - -",
		"<0>1 2000-02-30T00:00:00Z - - - - -", "<0>1 2000-02-29T00:00:00.50Z - - - - -", "<0>1 2000-02-29T00:00:00.0Z - - - - -", "<0>1 2000-02-29T00:00:00+00:00 - - - - -", "<0>1 2000-02-29T00:00:00+01:00 - - - - -",
		emptyLine + " " + strings.Repeat("x", 184), strings.Repeat("x", 65535), emptyLine + " " + strings.Repeat("x", 65518),
	} {
		opens(t, emptyRecord+byHand('P', line)+emptyRecord, []string{emptyRecord})
	}
}

func TestOpenKinds(t *testing.T) {
	for kind := range 256 {
		if kind != 'P' {
			opens(t, emptyRecord+byHand(byte(kind), emptyLine)+emptyRecord, []string{emptyRecord})
		}
		if kind != 'A' {
			opens(t, emptyRecord+byHand(byte(kind), "\x00\x01")+emptyRecord, []string{emptyRecord})
		}
	}
}

func TestOpenAcks(t *testing.T) {
	five := slices.Repeat([]string{emptyRecord}, 5)
	log := strings.Repeat(emptyRecord, 5)
	for n := range 65536 {
		if n%256 > 7 && n > 300 {
			continue
		}
		want := five
		if 1 <= n && n <= 5 {
			want = append(slices.Clone(five), ackByHand(n), emptyRecord)
		}
		opens(t, log+ackByHand(n)+emptyRecord, want)
	}
	for _, content := range []string{"", "\x01", "\x00\x00\x01", "\x00\x01\x00", "\x01\x00", "1"} {
		opens(t, log+byHand('A', content)+emptyRecord, five)
	}
	for first := 1; first <= 5; first++ {
		ahead := append(slices.Clone(five), ackByHand(first))
		for second := range 7 {
			want := ahead
			if first < second && second <= 5 {
				want = append(slices.Clone(ahead), ackByHand(second), emptyRecord)
			}
			opens(t, strings.Join(ahead, "")+ackByHand(second)+emptyRecord, want)
		}
	}
	opens(t, firstAck+emptyRecord, nil)
	opens(t, ackByHand(0)+emptyRecord, nil)
	opens(t, emptyRecord+ackByHand(2)+emptyRecord, []string{emptyRecord})
	opens(t, emptyRecord+firstAck+emptyRecord+firstAck+emptyRecord, []string{emptyRecord, firstAck, emptyRecord})
}

// More may wait than there is room; then nothing is put until enough are had.
func TestOpenAboveRoom(t *testing.T) {
	for room := 1; room <= 8; room++ {
		l := mustOpen(t, strings.Repeat(emptyRecord, 20), room)
		mustHave(t, l, strings.Repeat(emptyRecord, 20), slices.Repeat([]string{emptyLine}, 20)...)
		mustNotPut(t, l, Message{}, ErrMany)
		mustAck(t, l, 20-room, OK)
		mustNotPut(t, l, Message{}, ErrMany)
		mustAck(t, l, 20-room+1, OK)
		mustPut(t, l, Message{}, 21)
		mustNotPut(t, l, Message{}, ErrMany)
	}
}

func TestMostMessages(t *testing.T) {
	l := mustOpen(t, "", 1)
	for n := 1; n <= 65535; n++ {
		mustPut(t, l, textMessage(strconv.Itoa(n)), n)
		if got := l.Waiting(); len(got) != 1 || got[0] != emptyLine+" "+strconv.Itoa(n) {
			t.Fatalf("P7: Waiting() = %q at %d", got, n)
		}
		mustAck(t, l, n+1, ErrArg)
		mustAck(t, l, n, OK)
	}
	log := l.Bytes()
	mustNotPut(t, l, Message{}, ErrMany)
	mustNotPut(t, l, textMessage("\n"), ErrText)
	mustAck(t, l, 65535, ErrArg)
	mustAck(t, l, 65536, ErrArg)
	mustHave(t, l, log)
	if !strings.HasSuffix(log, ackByHand(65535)) {
		t.Errorf("P7: the log ends with %q", log[len(log)-7:])
	}
	again := mustOpen(t, log+emptyRecord, 8)
	mustHave(t, again, log)
	mustNotPut(t, again, Message{}, ErrMany)
}

func TestOpenMostMessages(t *testing.T) {
	most := strings.Repeat(emptyRecord, 65535)
	for _, behind := range []string{"", emptyRecord, emptyRecord + ackByHand(65535), strings.Repeat(emptyRecord, 1000)} {
		l := mustOpen(t, most+behind, 8)
		if got := l.Bytes(); got != most {
			t.Errorf("P7: %d bytes of the greatest log, want %d", len(got), len(most))
		}
		if got := len(l.Waiting()); got != 65535 {
			t.Errorf("P7: %d wait in the greatest log", got)
		}
		mustNotPut(t, l, Message{}, ErrMany)
		mustAck(t, l, 65536, ErrArg)
		mustAck(t, l, 65535, OK)
		mustNotPut(t, l, Message{}, ErrMany)
		if got := l.Bytes(); got != most+ackByHand(65535) {
			t.Errorf("P7: %d bytes behind Ack", len(got))
		}
	}
	for _, n := range []int{1, 255, 256, 257, 32768, 65534, 65535} {
		l := mustOpen(t, most+ackByHand(n)+emptyRecord, 8)
		if got := l.Bytes(); got != most+ackByHand(n) {
			t.Errorf("P7: %d bytes of the greatest log with an A of %d", len(got), n)
		}
		if got := len(l.Waiting()); got != 65535-n {
			t.Errorf("P7: %d wait behind %d", got, n)
		}
	}
}

// P2: several logs do not know of each other.
func TestLogsByTurns(t *testing.T) {
	log := strings.Join(someRecords(), "")
	logs, want := []*Log{}, []string{}
	for i := range 5 {
		logs = append(logs, mustOpen(t, log, 8-i))
		want = append(want, log)
	}
	for turn := range 3 {
		for i, l := range logs {
			text := strconv.Itoa(turn) + " " + strconv.Itoa(i)
			mustPut(t, l, textMessage(text), 6+turn)
			mustAck(t, l, 4+turn, OK)
			want[i] += byHand('P', emptyLine+" "+text) + ackByHand(4+turn)
		}
	}
	for i, l := range logs {
		mustHave(t, l, want[i], emptyLine+" 1 "+strconv.Itoa(i), emptyLine+" 2 "+strconv.Itoa(i))
	}
}

// P2: lists are the caller's own, also if they are written over or made longer.
func TestWaitingIsNew(t *testing.T) {
	for _, l := range []*Log{mustOpen(t, strings.Repeat(emptyRecord, 3), 8), mustOpen(t, "", 8)} {
		for len(l.Waiting()) < 4 {
			l.Put(Message{})
		}
		first, second := l.Waiting(), l.Waiting()
		for i := range first {
			first[i] = "mine"
		}
		_ = append(first, "mine")
		_ = append(first[:1], "mine", "mine")
		lines := slices.Repeat([]string{emptyLine}, 4)
		if !slices.Equal(second, lines) {
			t.Errorf("P2: the other list is %q", second)
		}
		mustHave(t, l, strings.Repeat(emptyRecord, 4), lines...)
		mustAck(t, l, 2, OK)
		mustPut(t, l, textMessage("x"), 5)
		if !slices.Equal(second, lines) {
			t.Errorf("P2: the list that came out ahead is %q", second)
		}
		mustHave(t, l, strings.Repeat(emptyRecord, 4)+ackByHand(2)+byHand('P', emptyLine+" x"), emptyLine, emptyLine, emptyLine+" x")
	}
}

// P9: a line of a log is a message that goes into another log as it is.
func TestLinesOfLog(t *testing.T) {
	l := mustOpen(t, strings.Join([]string{someRecords()[0], someRecords()[1], someRecords()[3]}, ""), 8)
	other := mustOpen(t, "", 8)
	for i, line := range l.Waiting() {
		m, e, at := Read(line, 2024)
		if e != OK || at != 0 {
			t.Errorf("P9: Read(%q) = %d, %d", line, e, at)
		}
		mustPut(t, other, m, i+1)
	}
	mustHave(t, other, l.Bytes(), l.Waiting()...)
}

// Open answers nil beside an error; its calls must not panic either.
func TestNoLog(t *testing.T) {
	l, _ := Open("", 0)
	mustHave(t, l, "")
	mustNotPut(t, l, Message{}, ErrArg)
	mustAck(t, l, 1, ErrArg)
	mustHave(t, l, "")
}

func TestRecordsLeftEarly(t *testing.T) {
	log := strings.Join(someRecords(), "")
	for stop := 1; stop <= len(someRecords()); stop++ {
		seen := 0
		for one := range recordsIn(log) {
			if want := someRecords()[seen]; writeRecord(one) != want {
				t.Errorf("record %d is %q, want %q", seen, writeRecord(one), want)
			}
			seen++
			if seen == stop {
				break
			}
		}
		if seen != stop {
			t.Errorf("%d records were gone through, want %d", seen, stop)
		}
	}
}

// openByHand is what is left of a log, by the document's words: the longest beginning that records written by hand add up to.
func openByHand(log string) (records []string) {
	messages, had := 0, 0
	for len(log) >= 5 {
		length := int(log[1])*256 + int(log[2])
		if len(log) < length+5 || byHand(log[0], log[3:3+length]) != log[:length+5] {
			break
		}
		content := log[3 : 3+length]
		if log[0] == 'A' && length == 2 {
			n := int(content[0])*256 + int(content[1])
			if n <= had || n > messages {
				break
			}
			had = n
		} else {
			m, e, _ := readByPattern(content, 9999)
			line, _ := Line(m)
			if log[0] != 'P' || length > 200 || e != OK || line != content || messages == 65535 {
				break
			}
			messages++
		}
		records = append(records, log[:length+5])
		log = log[length+5:]
	}
	return records
}

// randomLog has records that are mostly right.
func randomLog(random *rand.Rand) string {
	log, messages, had := "", 0, 0
	for range random.IntN(12) {
		switch random.IntN(12) {
		case 0:
			log += ackByHand(random.IntN(messages + 2))
		case 1:
			log += byHand('P', "cron: x")
		case 2, 3, 4:
			had = min(had+1+random.IntN(3), messages)
			log += ackByHand(had)
		default:
			log += byHand('P', "<"+strconv.Itoa(random.IntN(192))+">1 - - - - - - "+strconv.Itoa(messages))
			messages++
		}
	}
	return log
}

func TestOpenByHand(t *testing.T) {
	random := rand.New(rand.NewPCG(7, 7))
	for range 20000 {
		log := randomLog(random)
		opens(t, log, openByHand(log))
	}
}

// mustBeTheModel plays calls on a log, and on lists that are kept beside it.
func mustBeTheModel(t *testing.T, room int, calls string) {
	t.Helper()
	l := mustOpen(t, "", room)
	var records, lines []string
	had := 0
	for i := range len(calls) {
		switch c := int(calls[i]); {
		case c%3 > 0:
			m := Message{Facility: c % 25, Severity: c / 32, Text: strconv.Itoa(i)}
			line, want := Line(m)
			if want == OK && len(lines)-had >= room {
				want = ErrMany
			}
			if want != OK {
				mustNotPut(t, l, m, want)
				continue
			}
			lines = append(lines, line)
			records = append(records, byHand('P', line))
			mustPut(t, l, m, len(lines))
		case had < c/3 && c/3 <= len(lines):
			had = c / 3
			records = append(records, ackByHand(had))
			mustAck(t, l, had, OK)
		default:
			mustAck(t, l, c/3, ErrArg)
		}
		mustHave(t, l, strings.Join(records, ""), lines[had:]...)
	}
	opens(t, l.Bytes(), records)
}

func TestLogModel(t *testing.T) {
	random := rand.New(rand.NewPCG(8, 8))
	for range 3000 {
		calls := make([]byte, random.IntN(60))
		for i := range calls {
			// Low numbers, so that many an Ack is right.
			calls[i] = byte(random.IntN(256) >> random.IntN(5))
		}
		mustBeTheModel(t, 1+random.IntN(8), string(calls))
	}
}

// wrapped makes a record of each line: its first byte is the letter. (A check is hard to come by otherwise.)
func wrapped(lines string) string {
	log := ""
	for line := range strings.SplitSeq(lines, "\n") {
		if line != "" && len(line) <= 65536 {
			log += byHand(line[0], line[1:])
		}
	}
	return log
}

func FuzzOpen(f *testing.F) {
	f.Add("P"+emptyLine+"\nA\x00\x01", "P")
	f.Add("", strings.Join(someRecords(), ""))
	f.Fuzz(func(t *testing.T, lines, behind string) {
		log := wrapped(lines) + behind
		opens(t, log, openByHand(log))
	})
}

func FuzzLog(f *testing.F) {
	f.Add(3, "\x01\x02\x04\x03\x05\x06")
	f.Fuzz(func(t *testing.T, room int, calls string) { mustBeTheModel(t, 1+int(uint(room)%8), calls) })
}
