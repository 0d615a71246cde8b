package herald

import "strings"

const (
	firstYear = 1
	lastYear  = 9999

	minutesOfDay   = 24 * 60
	fractionDigits = 6

	momentShape = "0000-00-00T00:00:00"
)

// moment has no fraction of a second: no difference reaches that, so it stays a text.
type moment struct {
	year, month, day     int
	hour, minute, second int
}

// readTime reads a time of a line's new form, and tells it by Z as a message keeps it.
func readTime(text string) (string, bool) {
	if len(text) < len(momentShape) || !hasShape(text[:len(momentShape)], momentShape) {
		return "", false
	}
	fraction, zone := cutFraction(text[len(momentShape):])
	minutes, known := readDifference(zone)
	t := momentOf(text)
	if !known || !t.exists() {
		return "", false
	}
	t = t.earlier(minutes)
	if !isYear(t.year) {
		return "", false
	}
	return t.text() + fraction + "Z", true
}

// isTime asks readTime, as a message's times are those that reading leaves as they are.
func isTime(text string) bool {
	read, right := readTime(text)
	return right && read == text
}

// cutFraction parts a fraction, brought to as few digits as can be, from what is behind it. A wrong one is left behind in part, where it is no difference.
func cutFraction(text string) (fraction, behind string) {
	if !strings.HasPrefix(text, ".") {
		return "", text
	}
	count := countAhead(text[1:], fractionDigits, isDigit)
	if count == 0 {
		return "", text
	}
	fraction = strings.TrimRight(text[:1+count], "0")
	if fraction == "." {
		fraction = ""
	}
	return fraction, text[1+count:]
}

// readDifference tells how many minutes a time is ahead of Z.
func readDifference(zone string) (int, bool) {
	if zone == "Z" {
		return 0, true
	}
	if !hasShape(zone, "+00:00") && !hasShape(zone, "-00:00") {
		return 0, false
	}
	hours, minutes := decimal(zone[1:3]), decimal(zone[4:6])
	if hours > 23 || minutes > 59 {
		return 0, false
	}
	if zone[0] == '-' {
		return -(60*hours + minutes), true
	}
	return 60*hours + minutes, true
}

// momentOf takes a text that begins with momentShape.
func momentOf(text string) moment {
	return moment{
		year: decimal(text[0:4]), month: decimal(text[5:7]), day: decimal(text[8:10]),
		hour: decimal(text[11:13]), minute: decimal(text[14:16]), second: decimal(text[17:19]),
	}
}

func (t moment) text() string {
	day := padded(t.year, 4) + "-" + padded(t.month, 2) + "-" + padded(t.day, 2)
	return day + "T" + padded(t.hour, 2) + ":" + padded(t.minute, 2) + ":" + padded(t.second, 2)
}

func (t moment) exists() bool {
	if !isYear(t.year) || t.month < 1 || t.month > len(monthDays) {
		return false
	}
	if t.day < 1 || t.day > daysOf(t.year, t.month) {
		return false
	}
	return t.hour <= 23 && t.minute <= 59 && t.second <= 59
}

// earlier may leave the years that there are. No difference is as long as a day, so one step between days is enough.
func (t moment) earlier(minutes int) moment {
	left := 60*t.hour + t.minute - minutes
	switch {
	case left < 0:
		t = t.dayBefore()
		left += minutesOfDay
	case left >= minutesOfDay:
		t = t.dayAfter()
		left -= minutesOfDay
	}
	t.hour, t.minute = left/60, left%60
	return t
}

func (t moment) dayBefore() moment {
	t.day--
	if t.day < 1 {
		t.month--
		if t.month < 1 {
			t.year, t.month = t.year-1, len(monthDays)
		}
		t.day = daysOf(t.year, t.month)
	}
	return t
}

func (t moment) dayAfter() moment {
	t.day++
	if t.day > daysOf(t.year, t.month) {
		t.day = 1
		t.month++
		if t.month > len(monthDays) {
			t.year, t.month = t.year+1, 1
		}
	}
	return t
}

func isYear(year int) bool { return firstYear <= year && year <= lastYear }

func isLeap(year int) bool { return year%4 == 0 && (year%100 != 0 || year%400 == 0) }

func daysOf(year, month int) int {
	if month == 2 && isLeap(year) {
		return 29
	}
	return monthDays[month-1]
}
