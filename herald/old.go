package herald

import "strings"

const (
	tagMost       = 16
	tagProcDigits = 8

	// stampLength is of "Mmm dd hh:mm:ss", with the blank behind it.
	stampLength = 16
)

// stamp is the first part of an old message; length is how many bytes it takes up, 0 if it is not there.
type stamp struct {
	time, host string
	length     int
}

// tag is the second part of an old message; length is how many bytes it takes up, 0 if it is not there.
type tag struct {
	app, proc string
	length    int
}

// readOld reads what an old line has behind its source, part by part: a part that is not there leaves all to the next.
func readOld(m Message, rest string, year int) Message {
	first := stampAhead(rest, year)
	switch {
	case first.length > 0:
		m.Time, m.Host = first.time, first.host
		rest = rest[first.length:]
		fallthrough
	case rest != "":
		second := tagAhead(rest)
		m.App, m.Proc = second.app, second.proc
		rest = rest[second.length:]
		fallthrough
	default:
		m.Text = rest
	}
	return m
}

func stampAhead(text string, year int) stamp {
	if len(text) < stampLength || text[stampLength-1] != ' ' {
		return stamp{}
	}
	time, right := oldTime(text[:stampLength-1], year)
	host, _, ended := strings.Cut(text[stampLength:], " ")
	if !right || !ended || !isWord(host, wordKinds[hostWord].most) {
		return stamp{}
	}
	return stamp{time: time, host: host, length: stampLength + len(host) + len(" ")}
}

// oldTime brings "Mmm dd hh:mm:ss" of a year into the new form, and leaves it to that form's check whether there is such a time.
func oldTime(text string, year int) (string, bool) {
	month := monthNumber(text[:3])
	day, clock := text[4:6], text[7:]
	if month == 0 || text[3] != ' ' || text[6] != ' ' || day[0] == '0' {
		return "", false
	}
	if day[0] == ' ' {
		day = "0" + day[1:]
	}
	time := padded(year, 4) + "-" + padded(month, 2) + "-" + day + "T" + clock + "Z"
	return time, isTime(time)
}

func tagAhead(text string) tag {
	end := countAhead(text, tagMost, isTagByte)
	app := text[:end]
	if end == 0 || app == notTold {
		return tag{}
	}
	proc := ""
	if strings.HasPrefix(text[end:], "[") {
		count := countAhead(text[end+1:], tagProcDigits, isDigit)
		proc = text[end+1 : end+1+count]
		end += 1 + count
		if count == 0 || !strings.HasPrefix(text[end:], "]") {
			return tag{}
		}
		end++
	}
	if !strings.HasPrefix(text[end:], ":") {
		return tag{}
	}
	end++
	if strings.HasPrefix(text[end:], " ") {
		end++
	}
	return tag{app: app, proc: proc, length: end}
}

func isTagByte(c byte) bool {
	return isLetter(c) || isDigit(c) || c == '-' || c == '_' || c == '.' || c == '/'
}
