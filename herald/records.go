package herald

import "iter"

const (
	messageKind = 'P'
	ackKind     = 'A'

	// Ahead of a record's bytes are its letter and a number, how many they are; behind them is their check.
	numberLength = 2
	headLength   = 1 + numberLength
	checkLength  = 2

	checkModulo = 251
)

// record is one of a log, without what can be counted out of it.
type record struct {
	kind  byte
	bytes string
}

// recordsIn goes through the records from the beginning of a log, up to the first that is not whole or has a wrong check. (Whether one is right beyond that hangs on those ahead of it.)
func recordsIn(log string) iter.Seq[record] {
	return func(yield func(record) bool) {
		rest := log
		for {
			one, length := readRecord(rest)
			if length == 0 || !yield(one) {
				return
			}
			rest = rest[length:]
		}
	}
}

// readRecord tells the record that a log begins with, and how many bytes it has there; 0, if it is not whole or has a wrong check.
func readRecord(log string) (one record, length int) {
	if len(log) < headLength {
		return record{}, 0
	}
	end := headLength + numberOf(log[1:headLength])
	if len(log) < end+checkLength || log[end:end+checkLength] != checkOf(log[:end]) {
		return record{}, 0
	}
	return record{log[0], log[headLength:end]}, end + checkLength
}

func writeRecord(one record) string {
	ahead := string([]byte{one.kind}) + twoBytes(len(one.bytes)) + one.bytes
	return ahead + checkOf(ahead)
}

func checkOf(bytes string) string {
	a, b := 1, 0
	for i := range len(bytes) {
		a = (a + int(bytes[i])) % checkModulo
		b = (b + a) % checkModulo
	}
	return string([]byte{byte(a), byte(b)})
}

// twoBytes writes a number up to 65535, the higher byte first; numberOf reads it.
func twoBytes(number int) string {
	return string([]byte{byte(number >> 8), byte(number)})
}

func numberOf(two string) int {
	return int(two[0])<<8 | int(two[1])
}
