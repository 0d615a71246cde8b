package herald

import "strconv"

const (
	firstLocal = 16
	locals     = 8
	facilities = firstLocal + locals
	severities = 8
)

// ownNames is of the facilities that are not local, by their number.
var ownNames = [firstLocal]string{
	"kern", "user", "mail", "daemon", "auth", "syslog", "lpr", "news",
	"uucp", "cron", "authpriv", "ftp", "ntp", "audit", "alert", "clock",
}

var severityNames = [severities]string{"emerg", "alert", "crit", "err", "warning", "notice", "info", "debug"}

var monthNames = [12]string{"Jan", "Feb", "Mar", "Apr", "May", "Jun", "Jul", "Aug", "Sep", "Oct", "Nov", "Dec"}

// monthDays is of a year that is no leap year.
var monthDays = [12]int{31, 28, 31, 30, 31, 30, 31, 31, 30, 31, 30, 31}

// What can be counted out, init fills in. Facilities and severities have a table of numbers each, since "alert" is a name of both.
var (
	facilityNames   = [facilities]string{}
	facilityNumbers = map[string]int{}
	severityNumbers = map[string]int{}
	monthNumbers    = map[string]int{}
)

func init() {
	for number := range facilities {
		facilityNames[number] = facilityName(number)
	}
	for number, name := range facilityNames {
		facilityNumbers[name] = number
	}
	for number, name := range severityNames {
		severityNumbers[name] = number
	}
	for i, name := range monthNames {
		monthNumbers[name] = i + 1
	}
}

// The functions below work their answers out from the names that are written out: Read and NewRules ask them alone. The tables that init fills stand beside them, for those who ask by names.go.

func facilityName(number int) string {
	if number < firstLocal {
		return ownNames[number]
	}
	return "local" + strconv.Itoa(number-firstLocal)
}

func facilityNumber(name string) (int, bool) {
	for number := range facilities {
		if facilityName(number) == name {
			return number, true
		}
	}
	return 0, false
}

func severityNumber(name string) (int, bool) {
	for number, severity := range severityNames {
		if severity == name {
			return number, true
		}
	}
	return 0, false
}

// monthNumber tells 0 for a name that is none.
func monthNumber(name string) int {
	for i, month := range monthNames {
		if month == name {
			return i + 1
		}
	}
	return 0
}
