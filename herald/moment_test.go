package herald

import (
	"fmt"
	"testing"
	"time"
)

const inZ = "2006-01-02T15:04:05Z"

func timeLine(time string) string { return "<0>1 " + time + " - - - - -" }

func TestReadTime(t *testing.T) {
	for _, c := range [][2]string{
		{"2003-10-11T22:14:15Z", "2003-10-11T22:14:15Z"},
		{"2003-10-11T00:00:00.000001Z", "2003-10-11T00:00:00.000001Z"},
		{"2003-10-11T23:59:59.100000Z", "2003-10-11T23:59:59.1Z"},
		{"2003-10-11T23:59:59.101000-00:00", "2003-10-11T23:59:59.101Z"},
		{"2003-10-11T23:59:59.0Z", "2003-10-11T23:59:59Z"},
		{"2003-10-11T23:59:59.000000+23:59", "2003-10-11T00:00:59Z"},
		{"2004-02-28T23:59:59-00:01", "2004-02-29T00:00:59Z"},
		{"2003-02-28T23:59:59-00:01", "2003-03-01T00:00:59Z"},
		{"2000-03-01T00:00:00+00:01", "2000-02-29T23:59:00Z"},
		{"1900-03-01T00:00:00+00:01", "1900-02-28T23:59:00Z"},
		{"2003-12-31T12:00:00-23:59", "2004-01-01T11:59:00Z"},
		{"2003-01-01T12:00:00+23:59", "2002-12-31T12:01:00Z"},
		{"0001-01-01T00:00:00Z", "0001-01-01T00:00:00Z"},
		{"0001-01-01T00:00:00-00:01", "0001-01-01T00:01:00Z"},
		{"0001-01-01T00:01:00+00:01", "0001-01-01T00:00:00Z"},
		{"9999-12-31T23:59:59.999999Z", "9999-12-31T23:59:59.999999Z"},
		{"9999-12-31T23:58:59-00:01", "9999-12-31T23:59:59Z"},
	} {
		mustRead(t, timeLine(c[0]), 1, Message{Time: c[1]})
	}
}

func TestReadTimeThatIsNone(t *testing.T) {
	const day, clock = "2003-10-11", "T22:14:15"
	for _, text := range []string{
		"0000-10-11T22:14:15Z", "0000-12-31T23:59:00-00:01", "0001-01-01T00:00:00+00:01", "9999-12-31T23:59:00-00:01", "10000-01-01T00:00:00Z",
		"2003-00-11" + clock + "Z", "2003-13-11" + clock + "Z", "2003-10-00" + clock + "Z", "2003-04-31" + clock + "Z", "2100-02-29" + clock + "Z",
		day + "T24:00:00Z", day + "T23:60:00Z", day + "T23:59:60Z",
		day + clock, day + clock + ".", day + clock + ".Z", day + clock + ".1", day + clock + ".1234560Z", day + clock + ",1Z", day + clock + ".1xZ", day + clock + ".-1Z",
		day + clock + "z", day + clock + "ZZ", day + clock + "Z+01:00", day + clock + "+24:00", day + clock + "-24:00", day + clock + "+01:60", day + clock + "+01", day + clock + "+0100", day + clock + "+1:00", day + clock + "+01:0", day + clock + "+01:000", day + clock + "*01:00", day + clock + "+-1:00",
		day, day + "T", day + "t22:14:15Z", "2003/10/11" + clock + "Z", "203-10-11" + clock + "Z", "2003-1-11" + clock + "Z", "+003-10-11" + clock + "Z", "2003-10-1a" + clock + "Z", "--", "Z", "\u00e9",
	} {
		mustRefuse(t, timeLine(text), 1, ErrTime, 5)
	}
}

// Go's library counts days as the document does, so it is asked for every day of the years at whose ends the counting changes.
func TestEveryDay(t *testing.T) {
	for _, year := range []int{1, 4, 100, 400, 1582, 1600, 1700, 1752, 1900, 1999, 2000, 2001, 2004, 2023, 2100, 9996, 9999} {
		for month := 1; month <= 12; month++ {
			for day := 1; day <= 31; day++ {
				checkDay(t, time.Date(year, time.Month(month), day, 12, 34, 56, 0, time.UTC), year, month, day)
			}
		}
	}
}

func checkDay(t *testing.T, real time.Time, year, month, day int) {
	told := fmt.Sprintf("%04d-%02d-%02dT12:34:56", year, month, day)
	old := fmt.Sprintf("%s %2d 12:34:56 h x", time.Month(month).String()[:3], day)
	if real.Day() != day {
		mustRefuse(t, timeLine(told+"Z"), 1, ErrTime, 5)
		mustRead(t, old, year, Message{Facility: 1, Severity: 5, Text: old})
		return
	}
	mustRead(t, timeLine(told+"Z"), 1, Message{Time: told + "Z"})
	mustRead(t, old, year, Message{Facility: 1, Severity: 5, Time: told + "Z", Host: "h", Text: "x"})
	for _, zone := range []struct {
		text string
		back time.Duration
	}{{"+23:59", 23*time.Hour + 59*time.Minute}, {"-23:59", -23*time.Hour - 59*time.Minute}} {
		at := real.Add(-zone.back)
		if at.Year() < 1 || at.Year() > 9999 {
			mustRefuse(t, timeLine(told+zone.text), 1, ErrTime, 5)
			continue
		}
		mustRead(t, timeLine(told+zone.text), 1, Message{Time: at.Format(inZ)})
	}
}
