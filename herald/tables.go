package herald

import "strconv"

const (
	firstLocal = 16
	locals     = 8
	facilities = firstLocal + locals
	severities = 8
)

// facilityNames holds every facility by its number; init counts out the local ones.
var facilityNames = [facilities]string{
	"kern", "user", "mail", "daemon", "auth", "syslog", "lpr", "news",
	"uucp", "cron", "authpriv", "ftp", "ntp", "audit", "alert", "clock",
}

var severityNames = [severities]string{"emerg", "alert", "crit", "err", "warning", "notice", "info", "debug"}

var monthNames = [12]string{"Jan", "Feb", "Mar", "Apr", "May", "Jun", "Jul", "Aug", "Sep", "Oct", "Nov", "Dec"}

// monthDays is of a year that is no leap year.
var monthDays = [12]int{31, 28, 31, 30, 31, 30, 31, 31, 30, 31, 30, 31}

// Facilities and severities have a table each, since "alert" is a name of both.
var (
	facilityNumbers = map[string]int{}
	severityNumbers = map[string]int{}
	monthNumbers    = map[string]int{}
)

func init() {
	for i := range locals {
		facilityNames[firstLocal+i] = "local" + strconv.Itoa(i)
	}
	for number, name := range facilityNames {
		facilityNumbers[name] = number
	}
	for number, name := range severityNames {
		severityNumbers[name] = number
	}
	for i, name := range monthNames {
		monthNumbers[name] = i + 1
	}
}
