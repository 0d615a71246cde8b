package herald

import "slices"

const (
	maxRoom = 8
	// maxMessages is the greatest number that the two bytes of an A record can tell.
	maxMessages = 65535

	// anyYear is for lines of the new form, which tell their year themselves.
	anyYear = 1
)

// Log keeps messages.
type Log struct {
	room int
	// records is the log as Bytes tells it.
	records []byte
	// had is the number of the message acknowledged last, waiting the lines of all behind it.
	had     int
	waiting []string
}

// Open reads a log (P7).
func Open(log string, room int) (*Log, Errno) {
	if room < 1 || room > maxRoom {
		return nil, ErrArg
	}
	l := &Log{room: room}
	for one := range recordsIn(log) {
		if !l.takeBack(one) {
			break
		}
	}
	return l, OK
}

// Put puts a message behind all others (P7).
func (l *Log) Put(m Message) (int, Errno) {
	if l == nil {
		return 0, ErrArg
	}
	line, e := Line(m)
	if e != OK {
		return 0, e
	}
	if len(l.waiting) >= l.room || l.messages() >= maxMessages {
		return 0, ErrMany
	}
	l.addMessage(line)
	return l.messages(), OK
}

// Ack says that somebody has messages (P7).
func (l *Log) Ack(n int) Errno {
	if l == nil || n <= l.had || n > l.messages() {
		return ErrArg
	}
	l.addAck(n)
	return OK
}

// Waiting tells the messages that nobody has yet (P7).
func (l *Log) Waiting() []string {
	if l == nil {
		return nil
	}
	return slices.Clone(l.waiting)
}

// Bytes tells the log (P7).
func (l *Log) Bytes() string {
	if l == nil {
		return ""
	}
	return string(l.records)
}

func (l *Log) messages() int {
	return l.had + len(l.waiting)
}

func (l *Log) addMessage(line string) {
	l.records = append(l.records, writeRecord(record{messageKind, line})...)
	l.waiting = append(l.waiting, line)
}

func (l *Log) addAck(n int) {
	l.records = append(l.records, writeRecord(record{ackKind, twoBytes(n)})...)
	passed := n - l.had
	// The list goes on in the same memory, which would hold the lines that nobody waits for any more.
	clear(l.waiting[:passed])
	l.waiting = l.waiting[passed:]
	l.had = n
}

// takeBack adds a record of a log that is opened, if it is right. The room is of what is put: more may wait in a log that is opened.
func (l *Log) takeBack(one record) bool {
	switch one.kind {
	case messageKind:
		line, same := lineAgain(one.bytes)
		if !same || l.messages() >= maxMessages {
			return false
		}
		l.addMessage(line)
		return true
	case ackKind:
		return len(one.bytes) == numberLength && l.Ack(numberOf(one.bytes)) == OK
	}
	return false
}

// lineAgain brings a line back by Read and Line, in memory of its own; is it the same?
func lineAgain(line string) (string, bool) {
	m, e, _ := Read(line, anyYear)
	if e != OK {
		return "", false
	}
	again, e := Line(m)
	return again, e == OK && again == line
}
