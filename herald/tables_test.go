package herald

import (
	"strings"
	"testing"
)

const (
	facilityList = "kern user mail daemon auth syslog lpr news uucp cron authpriv ftp ntp audit alert clock local0 local1 local2 local3 local4 local5 local6 local7"
	severityList = "emerg alert crit err warning notice info debug"
	monthList    = "Jan Feb Mar Apr May Jun Jul Aug Sep Oct Nov Dec"
)

func TestTables(t *testing.T) {
	for _, c := range []struct {
		names   []string
		numbers map[string]int
		first   int
		want    string
	}{
		{facilityNames[:], facilityNumbers, 0, facilityList},
		{severityNames[:], severityNumbers, 0, severityList},
		{monthNames[:], monthNumbers, 1, monthList},
	} {
		if got := strings.Join(c.names, " "); got != c.want {
			t.Errorf("names: %q, want %q", got, c.want)
		}
		if len(c.numbers) != len(c.names) {
			t.Errorf("%d numbers for %d names", len(c.numbers), len(c.names))
		}
		for i, name := range c.names {
			if n, known := c.numbers[name]; !known || n != c.first+i {
				t.Errorf("the number of %q is %d, %v", name, n, known)
			}
		}
	}
}

func checkNumbers(t *testing.T) {
	t.Helper()
	for i, name := range strings.Fields(facilityList) {
		if n, named := facilityNumber(name); n != i || !named {
			t.Errorf("the number of %q is %d, %v", name, n, named)
		}
	}
	for i, name := range strings.Fields(severityList) {
		if n, named := severityNumber(name); n != i || !named {
			t.Errorf("the number of %q is %d, %v", name, n, named)
		}
	}
	for i, name := range strings.Fields(monthList) {
		if n := monthNumber(name); n != i+1 {
			t.Errorf("the number of %q is %d", name, n)
		}
	}
	for _, name := range []string{"", "*", "x", "Kern", "local", "local8", "Emerg", "jan", "JAN", "Ja", "Jan ", "anF"} {
		if n, named := facilityNumber(name); n != 0 || named {
			t.Errorf("%q is the facility %d, %v", name, n, named)
		}
		if n, named := severityNumber(name); n != 0 || named {
			t.Errorf("%q is the severity %d, %v", name, n, named)
		}
		if n := monthNumber(name); n != 0 {
			t.Errorf("%q is the month %d", name, n)
		}
	}
}

// The functions must tell the same, whether init has filled the tables or not.
func TestNumbersWithoutTables(t *testing.T) {
	checkNumbers(t)
	names, fromNumbers, graveNumbers, months := facilityNames, facilityNumbers, severityNumbers, monthNumbers
	defer func() {
		facilityNames, facilityNumbers, severityNumbers, monthNumbers = names, fromNumbers, graveNumbers, months
	}()
	facilityNames, facilityNumbers, severityNumbers, monthNumbers = [facilities]string{}, nil, nil, nil
	checkNumbers(t)
}
