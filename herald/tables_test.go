package herald

import (
	"strings"
	"testing"
)

const (
	facilityList = "kern user mail daemon auth syslog lpr news uucp cron authpriv ftp ntp audit alert clock local0 local1 local2 local3 local4 local5 local6 local7"
	severityList = "emerg alert crit err warning notice info debug"
	monthList    = "Jan Feb Mar Apr May Jun Jul Aug Sep Oct Nov Dec"
)

func TestTables(t *testing.T) {
	for _, c := range []struct {
		names   []string
		numbers map[string]int
		first   int
		want    string
	}{
		{facilityNames[:], facilityNumbers, 0, facilityList},
		{severityNames[:], severityNumbers, 0, severityList},
		{monthNames[:], monthNumbers, 1, monthList},
	} {
		if got := strings.Join(c.names, " "); got != c.want {
			t.Errorf("names: %q, want %q", got, c.want)
		}
		if len(c.numbers) != len(c.names) {
			t.Errorf("%d numbers for %d names", len(c.numbers), len(c.names))
		}
		for i, name := range c.names {
			if n, known := c.numbers[name]; !known || n != c.first+i {
				t.Errorf("the number of %q is %d, %v", name, n, known)
			}
		}
	}
}

func checkNumbers(t *testing.T) {
	t.Helper()
	for i, name := range strings.Fields(facilityList) {
		if n, named := facilityNumber(name); n != i || !named {
			t.Errorf("the number of %q is %d, %v", name, n, named)
		}
	}
	for i, name := range strings.Fields(severityList) {
		if n, named := severityNumber(name); n != i || !named {
			t.Errorf("the number of %q is %d, %v", name, n, named)
		}
	}
	for i, name := range strings.Fields(monthList) {
		if n := monthNumber(name); n != i+1 {
			t.Errorf("the number of %q is %d", name, n)
		}
	}
	for _, name := range []string{"", "*", "x", "Kern", "local", "local8", "Emerg", "jan", "JAN", "Ja", "Jan ", "anF"} {
		if n, named := facilityNumber(name); n != 0 || named {
			t.Errorf("%q is the facility %d, %v", name, n, named)
		}
		if n, named := severityNumber(name); n != 0 || named {
			t.Errorf("%q is the severity %d, %v", name, n, named)
		}
		if n := monthNumber(name); n != 0 {
			t.Errorf("%q is the month %d", name, n)
		}
	}
}

func withTables(names [facilities]string, numbers map[string]int, ask func()) {
	oldNames, oldFacilities, oldSeverities, oldMonths := facilityNames, facilityNumbers, severityNumbers, monthNumbers
	defer func() {
		facilityNames, facilityNumbers, severityNumbers, monthNumbers = oldNames, oldFacilities, oldSeverities, oldMonths
	}()
	facilityNames, facilityNumbers, severityNumbers, monthNumbers = names, numbers, numbers, numbers
	ask()
}

// What the functions tell hangs on no table that init fills: not on empty ones, nor on ones that know other names.
func TestNumbersWithoutTables(t *testing.T) {
	checkNumbers(t)
	withTables([facilities]string{}, nil, func() { checkNumbers(t) })
	wrong := map[string]int{"x": 3, "local8": 4, "Ja": 5, "kern": 6, "emerg": 6, "Jan": 6}
	withTables([facilities]string{3: "x", 4: "local8", 5: "Ja"}, wrong, func() { checkNumbers(t) })
}

// Nor does what the document's calls answer.
func TestCallsWithoutTables(t *testing.T) {
	wrong := map[string]int{"Xyz": 3, "local8": 4, "Feb": 5, "mail": 6, "info": 6}
	for _, numbers := range []map[string]int{nil, wrong} {
		withTables([facilities]string{4: "local8"}, numbers, func() {
			if m, e, _ := Read("<13>Feb  5 17:32:18 h x", 2024); m.Time != "2024-02-05T17:32:18Z" || e != OK {
				t.Errorf("Read tells the time %q, %d", m.Time, e)
			}
			if m, e, _ := Read("<13>Xyz  5 17:32:18 h x", 2024); m.Time != "" || e != OK {
				t.Errorf("Read tells the time %q, %d", m.Time, e)
			}
			mustKeep(t, mustRules(t, "mail.=info drop\n"), func(f, s int) bool { return f != 2 || s != 6 })
			mustNotBeRules(t, "local8.* drop\n", ErrRule, 0)
			mustNotBeRules(t, "*.local8 drop\n", ErrRule, 0)
		})
	}
}
