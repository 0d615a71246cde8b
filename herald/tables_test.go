package herald

import (
	"strings"
	"testing"
)

func TestTables(t *testing.T) {
	for _, c := range []struct {
		names   []string
		numbers map[string]int
		first   int
		want    string
	}{
		{facilityNames[:], facilityNumbers, 0, "kern user mail daemon auth syslog lpr news uucp cron authpriv ftp ntp audit alert clock local0 local1 local2 local3 local4 local5 local6 local7"},
		{severityNames[:], severityNumbers, 0, "emerg alert crit err warning notice info debug"},
		{monthNames[:], monthNumbers, 1, "Jan Feb Mar Apr May Jun Jul Aug Sep Oct Nov Dec"},
	} {
		if got := strings.Join(c.names, " "); got != c.want {
			t.Errorf("names: %q, want %q", got, c.want)
		}
		if len(c.numbers) != len(c.names) {
			t.Errorf("%d numbers for %d names", len(c.numbers), len(c.names))
		}
		for i, name := range c.names {
			if n, known := c.numbers[name]; !known || n != c.first+i {
				t.Errorf("the number of %q is %d, %v", name, n, known)
			}
		}
	}
}
