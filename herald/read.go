package herald

import "strings"

const (
	maxLine = 200

	sourceMost   = 191
	sourceDigits = 3

	// sourceOfOld is user and notice, of an old line that does not tell.
	sourceOfOld = 1*severities + 5
)

// Read reads a message (P3).
func Read(line string, year int) (Message, Errno, int) {
	if len(line) > maxLine {
		return Message{}, ErrLong, 0
	}
	if !isYear(year) {
		return Message{}, ErrArg, 0
	}
	source, behind := readSource(line)
	m := Message{Facility: source / severities, Severity: source % severities}
	if behind > 0 && strings.HasPrefix(line[behind:], "1 ") {
		return readNew(m, line, behind+len("1 "))
	}
	if !isPlain(line[behind:]) {
		return Message{}, ErrText, behind
	}
	return readOld(m, line[behind:], year), OK, 0
}

func isSource(facility, severity int) bool {
	return 0 <= facility && facility < facilities && 0 <= severity && severity < severities
}

// readSource tells the number between < and >, and where that ends; 0 as the end, if the line has none.
func readSource(line string) (source, behind int) {
	if !strings.HasPrefix(line, "<") {
		return sourceOfOld, 0
	}
	count := countAhead(line[1:], sourceDigits, isDigit)
	digits := line[1 : 1+count]
	if count == 0 || !strings.HasPrefix(line[1+count:], ">") {
		return sourceOfOld, 0
	}
	if digits[0] == '0' && count > 1 || decimal(digits) > sourceMost {
		return sourceOfOld, 0
	}
	return decimal(digits), 1 + count + len(">")
}

// readNew reads a line of the new form from its time on.
func readNew(m Message, line string, at int) (Message, Errno, int) {
	part, next := partAt(line, at)
	if part != notTold {
		time, right := readTime(part)
		if !right {
			return Message{}, ErrTime, at
		}
		m.Time = time
	}
	var words [wordCount]string
	for i, kind := range wordKinds {
		at = next
		part, next = partAt(line, at)
		if part == notTold {
			continue
		}
		if !isWord(part, kind.most) {
			return Message{}, kind.none, at
		}
		words[i] = part
	}
	m.Host, m.App, m.Proc, m.Id = words[hostWord], words[appWord], words[procWord], words[idWord]
	return readDataAndText(m, line, next)
}

// partAt tells the part that begins at a place, and where the next one does: at the line's end, if there is none.
func partAt(line string, at int) (part string, next int) {
	part, _, more := strings.Cut(line[at:], " ")
	next = at + len(part)
	if more {
		next++
	}
	return part, next
}

func readDataAndText(m Message, line string, at int) (Message, Errno, int) {
	length := toldOrDataAhead(line[at:])
	end := at + length
	if length == 0 || end < len(line) && line[end] != ' ' {
		return Message{}, ErrData, at
	}
	if line[at:end] != notTold {
		m.Data = line[at:end]
	}
	if end == len(line) {
		return m, OK, 0
	}
	if !isPlain(line[end+1:]) {
		return Message{}, ErrText, end + 1
	}
	m.Text = line[end+1:]
	return m, OK, 0
}

// toldOrDataAhead is dataAhead for a line, where data may also be not told.
func toldOrDataAhead(text string) int {
	if strings.HasPrefix(text, notTold) {
		return len(notTold)
	}
	return dataAhead(text)
}
