package herald

import "strings"

const (
	maxRules     = 12
	maxRulesText = 400

	// anyName stands in a selector for all facilities, or for all severities.
	anyName = "*"
)

// rule is a line of rules; a bit for each facility and each severity that it fits.
type rule struct {
	facilities, severities uint32
	keep                   bool
}

// Rules decide what is kept.
type Rules struct {
	lines []rule
}

// NewRules reads rules (P6).
func NewRules(text string) (*Rules, Errno, int) {
	if len(text) > maxRulesText {
		return nil, ErrLong, 0
	}
	r := &Rules{}
	for number := 0; text != ""; number++ {
		line, behind, ended := strings.Cut(text, "\n")
		one, right := readRule(line)
		if number == maxRules || !ended || !right {
			return nil, ErrRule, number
		}
		r.lines = append(r.lines, one)
		text = behind
	}
	return r, OK, 0
}

// Keeps decides (P6).
func (r *Rules) Keeps(facility int, severity int) (bool, Errno) {
	if r == nil || !isSource(facility, severity) {
		return false, ErrArg
	}
	for _, one := range r.lines {
		if one.fits(facility, severity) {
			return one.keep, OK
		}
	}
	return true, OK
}

func (one rule) fits(facility, severity int) bool {
	return one.facilities>>facility&1 == 1 && one.severities>>severity&1 == 1
}

func readRule(line string) (rule, bool) {
	selector, verdict, _ := strings.Cut(line, " ")
	from, grave, _ := strings.Cut(selector, ".")
	one := rule{facilities: readFacilities(from), severities: readSeverities(grave), keep: verdict == "keep"}
	if one.facilities == 0 || one.severities == 0 || !one.keep && verdict != "drop" {
		return rule{}, false
	}
	return one, true
}

// readFacilities tells a bit for each facility; none at all, if a name is wrong.
func readFacilities(text string) uint32 {
	if text == anyName {
		return 1<<facilities - 1
	}
	var bits uint32
	for _, name := range strings.Split(text, ",") {
		number, named := facilityNumber(name)
		if !named {
			return 0
		}
		bits |= 1 << number
	}
	return bits
}

// readSeverities tells a bit for each severity; none at all, if the name is wrong.
func readSeverities(text string) uint32 {
	if text == anyName {
		return 1<<severities - 1
	}
	name, alone := strings.CutPrefix(text, "=")
	number, named := severityNumber(name)
	switch {
	case !named:
		return 0
	case alone:
		return 1 << number
	}
	return 2<<number - 1
}
