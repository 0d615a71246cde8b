package herald

import (
	"iter"
	"strings"
)

const nameMost = 12

// elements goes through the elements with which a text begins, one behind the other: the name of each, and where it ends.
func elements(text string) iter.Seq2[string, int] {
	return func(yield func(string, int) bool) {
		end := 0
		for {
			name, length := elementAhead(text[end:])
			end += length
			if length == 0 || !yield(name, end) {
				return
			}
		}
	}
}

// dataAhead counts the bytes of the data with which a text begins; 0, if that is none.
func dataAhead(text string) int {
	seen := map[string]int{}
	length := 0
	for name, end := range elements(text) {
		if _, twice := seen[name]; twice {
			return 0
		}
		seen[name] = end
		length = end
	}
	if !isPlain(text[:length]) {
		return 0
	}
	return length
}

func isData(text string) bool { return text != "" && dataAhead(text) == len(text) }

// elementAhead tells the name and the length of the element with which a text begins; length 0, if that is none.
func elementAhead(text string) (name string, length int) {
	if !strings.HasPrefix(text, "[") {
		return "", 0
	}
	nameLength := nameAhead(text[1:])
	if nameLength == 0 {
		return "", 0
	}
	end := 1 + nameLength
	for strings.HasPrefix(text[end:], " ") {
		pair := pairAhead(text[end+1:])
		if pair == 0 {
			return "", 0
		}
		end += 1 + pair
	}
	if !strings.HasPrefix(text[end:], "]") {
		return "", 0
	}
	return text[1 : 1+nameLength], end + 1
}

// pairAhead counts the bytes of the name, = and the value in its quotes; 0, if they are not so.
func pairAhead(text string) int {
	name := nameAhead(text)
	if name == 0 || !strings.HasPrefix(text[name:], `="`) {
		return 0
	}
	begin := name + len(`="`)
	value, closed := valueAhead(text[begin:])
	if !closed {
		return 0
	}
	return begin + value + len(`"`)
}

func nameAhead(text string) int { return countAhead(text, nameMost, isNameByte) }

func isNameByte(c byte) bool {
	return isVisible(c) && c != '=' && c != ']' && c != '"'
}

// valueAhead counts the bytes of a value up to the quote that closes it. UTF-8 is left to dataAhead: no byte that is looked for here is part of a longer character.
func valueAhead(text string) (length int, closed bool) {
	for i := 0; i < len(text); i++ {
		switch text[i] {
		case '"':
			return i, true
		case ']':
			return 0, false
		case '\\':
			i++
			if i == len(text) || !isEscaped(text[i]) {
				return 0, false
			}
		}
	}
	return 0, false
}

func isEscaped(c byte) bool { return c == '"' || c == '\\' || c == ']' }
