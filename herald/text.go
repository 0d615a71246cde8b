package herald

import (
	"strconv"
	"strings"
	"unicode/utf8"
)

// notTold stands in a line for a part that is empty in the message.
const notTold = "-"

func isDigit(c byte) bool { return '0' <= c && c <= '9' }

func isLetter(c byte) bool { return 'A' <= c && c <= 'Z' || 'a' <= c && c <= 'z' }

// isVisible tells the bytes of hosts, apps and names: ASCII without blanks and control bytes.
func isVisible(c byte) bool { return 33 <= c && c <= 126 }

// countAhead stops at the bound. Where there are more such bytes than may be, the one behind is not the mark that must follow: so those who call it find out.
func countAhead(text string, bound int, fits func(byte) bool) int {
	n := 0
	for n < len(text) && n < bound && fits(text[n]) {
		n++
	}
	return n
}

// decimal takes digits alone; those who call it have looked at them, and have bounded how many there are.
func decimal(digits string) int {
	n := 0
	for i := range len(digits) {
		n = 10*n + int(digits[i]-'0')
	}
	return n
}

// padded takes a number that has no more digits than width.
func padded(n, width int) string {
	digits := strconv.Itoa(n)
	return strings.Repeat("0", width-len(digits)) + digits
}

// hasShape holds a text against a shape, in which each 0 stands for any digit.
func hasShape(text, shape string) bool {
	if len(text) != len(shape) {
		return false
	}
	for i := range len(text) {
		if shape[i] == '0' && !isDigit(text[i]) || shape[i] != '0' && shape[i] != text[i] {
			return false
		}
	}
	return true
}

// isWord tells whether a text may be a host, an app, a proc or an id of at most so many bytes.
func isWord(text string, most int) bool {
	if text == "" || text == notTold || len(text) > most {
		return false
	}
	return countAhead(text, most, isVisible) == len(text)
}

// isPlain tells whether a text may stand in data, or be a message's text.
func isPlain(text string) bool {
	for i := range len(text) {
		if text[i] < 32 || text[i] == 127 {
			return false
		}
	}
	return utf8.ValidString(text)
}
