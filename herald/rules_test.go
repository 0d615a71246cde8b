package herald

import (
	"math"
	"math/rand/v2"
	"regexp"
	"slices"
	"strings"
	"testing"
)

func mustRules(t *testing.T, text string) *Rules {
	t.Helper()
	r, e, at := NewRules(text)
	if r == nil || e != OK || at != 0 {
		t.Fatalf("P6: NewRules(%q) = %v, %d, %d", text, r, e, at)
	}
	return r
}

func mustNotBeRules(t *testing.T, text string, want Errno, place int) {
	t.Helper()
	if r, e, at := NewRules(text); r != nil || e != want || at != place {
		t.Errorf("P6: NewRules(%.80q) = %v, %d, %d, want %d, %d", text, r, e, at, want, place)
	}
}

// mustKeep asks for every facility and every severity.
func mustKeep(t *testing.T, r *Rules, want func(facility, severity int) bool) {
	t.Helper()
	for facility := range 24 {
		for severity := range 8 {
			if kept, e := r.Keeps(facility, severity); kept != want(facility, severity) || e != OK {
				t.Errorf("P6: Keeps(%d, %d) = %v, %d", facility, severity, kept, e)
			}
		}
	}
}

func TestRulesExample(t *testing.T) {
	r := mustRules(t, "mail,news.=info drop\n*.err keep\n*.* drop\n")
	mustKeep(t, r, func(facility, severity int) bool { return severity <= 3 })
	for _, c := range []struct {
		facility, severity int
		want               bool
	}{{2, 6, false}, {2, 3, true}, {0, 4, false}} {
		if kept, e := r.Keeps(c.facility, c.severity); kept != c.want || e != OK {
			t.Errorf("P6: Keeps(%d, %d) = %v, %d", c.facility, c.severity, kept, e)
		}
	}
}

func TestRulesEveryName(t *testing.T) {
	for i, from := range strings.Fields(facilityList) {
		for j, grave := range strings.Fields(severityList) {
			mustKeep(t, mustRules(t, from+"."+grave+" drop\n"), func(f, s int) bool { return f != i || s > j })
			mustKeep(t, mustRules(t, from+".="+grave+" drop\n"), func(f, s int) bool { return f != i || s != j })
			mustKeep(t, mustRules(t, "*."+grave+" keep\n*.* drop\n"), func(f, s int) bool { return s <= j })
			mustKeep(t, mustRules(t, "*.="+grave+" keep\n*.* drop\n"), func(f, s int) bool { return s == j })
		}
		mustKeep(t, mustRules(t, from+".* drop\n"), func(f, s int) bool { return f != i })
		mustNotBeRules(t, "*."+strings.Replace(from, "alert", "alerts", 1)+" drop\n", ErrRule, 0)
	}
	for _, grave := range strings.Fields(severityList) {
		mustNotBeRules(t, strings.Replace(grave, "alert", "alerts", 1)+".* drop\n", ErrRule, 0)
	}
	mustKeep(t, mustRules(t, strings.ReplaceAll(facilityList, " ", ",")+".* drop\n"), func(f, s int) bool { return false })
	mustKeep(t, mustRules(t, "*.* drop\n"), func(f, s int) bool { return false })
	mustKeep(t, mustRules(t, "kern,clock,local7,kern,alert.alert drop\n"), func(f, s int) bool {
		return !slices.Contains([]int{0, 14, 15, 23}, f) || s > 1
	})
}

func TestRulesTheFirstThatFits(t *testing.T) {
	mustKeep(t, mustRules(t, ""), func(f, s int) bool { return true })
	mustKeep(t, mustRules(t, "*.* keep\n*.* drop\n"), func(f, s int) bool { return true })
	mustKeep(t, mustRules(t, "*.* drop\n*.* keep\n"), func(f, s int) bool { return false })
	r := mustRules(t, "mail.=err keep\nmail.err drop\n*.crit keep\nuser,cron.* drop\n")
	mustKeep(t, r, func(f, s int) bool {
		switch {
		case f == 2:
			return s >= 3
		case f == 1, f == 9:
			return s <= 2
		}
		return true
	})
}

func TestKeepsWrongNumbers(t *testing.T) {
	for _, r := range []*Rules{mustRules(t, ""), mustRules(t, "*.* keep\n"), mustRules(t, "*.* drop\n")} {
		for _, c := range [][2]int{{-1, 0}, {24, 0}, {0, -1}, {0, 8}, {23, 8}, {24, 7}, {math.MinInt, 0}, {0, math.MaxInt}, {math.MaxInt, math.MinInt}, {32, 0}, {0, 32}, {64, 64}} {
			if kept, e := r.Keeps(c[0], c[1]); kept || e != ErrArg {
				t.Errorf("P6: Keeps(%d, %d) = %v, %d", c[0], c[1], kept, e)
			}
		}
	}
	r, _, _ := NewRules("x")
	if kept, e := r.Keeps(0, 0); kept || e != ErrArg {
		t.Errorf("P1: Keeps on nothing = %v, %d", kept, e)
	}
}

func TestRulesBounds(t *testing.T) {
	const line = "*.* keep\n"
	// A name may come more than once.
	full := strings.Repeat("mail,", 76) + "daemon,audit.* drop\n"
	if len(full) != 400 {
		t.Fatalf("%d bytes", len(full))
	}
	mustKeep(t, mustRules(t, full), func(f, s int) bool { return f != 2 && f != 3 && f != 13 })
	mustNotBeRules(t, "k"+full, ErrLong, 0)
	mustNotBeRules(t, "auth,"+full, ErrLong, 0)
	mustNotBeRules(t, line+full, ErrLong, 0)
	for _, c := range []string{"\n", "x", "\xff"} {
		mustNotBeRules(t, strings.Repeat(c, 400), ErrRule, 0)
		mustNotBeRules(t, strings.Repeat(c, 401), ErrLong, 0)
		mustNotBeRules(t, strings.Repeat(c, 1<<20), ErrLong, 0)
	}
	mustRules(t, strings.Repeat(line, 12))
	for count := range 13 {
		// The line that is wrong, or one that is not ended, or the first above the bound.
		mustNotBeRules(t, strings.Repeat(line, count)+"x\n", ErrRule, count)
		mustNotBeRules(t, strings.Repeat(line, count)+"\n", ErrRule, count)
		mustNotBeRules(t, strings.Repeat(line, count)+"*.* keep", ErrRule, count)
		mustNotBeRules(t, strings.Repeat(line, count)+"x\n"+strings.Repeat(line, 20), ErrRule, count)
		mustNotBeRules(t, strings.Repeat(line, count)+"x\nx\n"+strings.Repeat(line, 20)+"x", ErrRule, count)
	}
	mustNotBeRules(t, strings.Repeat(line, 13), ErrRule, 12)
	mustNotBeRules(t, strings.Repeat(line, 44), ErrRule, 12)
}

func TestRulesWrongLines(t *testing.T) {
	for _, line := range []string{
		"", " ", "*", "*.", ".*", ".", "*.*", "*.* ", "*.* k", "*.* kee", "*.* keepx", "*.* keep ", "*.* keep drop", "*.* keepdrop", "*.* Keep", "*.* KEEP", "*.* DROP", "*.*  keep", "*.*\tkeep", "*.*keep", " *.* keep", "*. * keep", "* .* keep",
		"* keep", "keep", "*.*.* keep", "**.* keep", "*.** keep", "*,*.* keep", "*,mail.* keep", "mail,*.* keep", "mail,.* keep", ",mail.* keep", "mail,,news.* keep", "mail, news.* keep", "mail;news.* keep", "mail news.* keep", ",.* keep",
		"Mail.* keep", "MAIL.* keep", "mai.* keep", "mails.* keep", "local.* keep", "local8.* keep", "local-1.* keep", "local00.* keep", "local10.* keep", "Local0.* keep", "local 0.* keep", "0.* keep", "23.* keep", "=mail.* keep", "!mail.* keep",
		"*.=* keep", "*.= keep", "*.==err keep", "*.err= keep", "*.Err keep", "*.error keep", "*.warn keep", "*.panic keep", "*.none keep", "*.er keep", "*.errs keep", "*.err,crit keep", "*.3 keep", "*.=3 keep", "*.! keep", "*.!err keep", "*..err keep", "*.= err keep", "*. err keep",
		"*.* keep\r", "*.* keep\x00", "\x00*.* keep", "*.* ke\xffep", "#", "# *.* keep", "*.* drop;",
	} {
		mustNotBeRules(t, line+"\n", ErrRule, 0)
		mustNotBeRules(t, "*.* keep\n"+line+"\n*.* keep\n", ErrRule, 1)
		mustNotBeRules(t, line+"\n*.* keep", ErrRule, 0)
	}
}

func TestRulesByTurns(t *testing.T) {
	one, other := mustRules(t, "mail.* drop\n"), mustRules(t, "*.* drop\nmail.* keep\n")
	for range 2 {
		mustKeep(t, one, func(f, s int) bool { return f != 2 })
		mustKeep(t, other, func(f, s int) bool { return false })
		mustNotBeRules(t, "*.* keep\nx\n", ErrRule, 1)
		mustKeep(t, mustRules(t, "*.=debug drop\n"), func(f, s int) bool { return s != 7 })
	}
}

var rulePattern = regexp.MustCompile(`^(\*|` + anyOf(facilityList) + `(?:,` + anyOf(facilityList) + `)*)\.(\*|=?` + anyOf(severityList) + `) (keep|drop)$`)

func anyOf(names string) string { return "(?:" + strings.ReplaceAll(names, " ", "|") + ")" }

// keepsByPattern is Keeps, asked of the text itself.
func keepsByPattern(text string, facility, severity int) bool {
	from, grave := strings.Fields(facilityList)[facility], strings.Fields(severityList)
	for _, line := range strings.Split(text, "\n") {
		part := rulePattern.FindStringSubmatch(line)
		if part == nil || part[1] != "*" && !slices.Contains(strings.Split(part[1], ","), from) {
			continue
		}
		if part[2] == "*" || part[2] == "="+grave[severity] || slices.Contains(grave[severity:], part[2]) {
			return part[3] == "keep"
		}
	}
	return true
}

func checkRules(t *testing.T, text string) Errno {
	t.Helper()
	r, e, at := NewRules(text)
	if len(text) > 400 {
		if r != nil || e != ErrLong || at != 0 {
			t.Fatalf("P6: NewRules(%q) = %v, %d, %d", text, r, e, at)
		}
		return e
	}
	lines := strings.SplitAfter(text, "\n")
	wrong := slices.IndexFunc(lines, func(line string) bool {
		bare, ended := strings.CutSuffix(line, "\n")
		return line != "" && (!ended || !rulePattern.MatchString(bare))
	})
	if wrong < 0 && len(lines)-1 > 12 || wrong > 12 {
		wrong = 12
	}
	if wrong >= 0 {
		if r != nil || e != ErrRule || at != wrong {
			t.Fatalf("P6: NewRules(%q) = %v, %d, %d, by pattern the line %d is wrong", text, r, e, at, wrong)
		}
		return e
	}
	if r == nil || e != OK || at != 0 {
		t.Fatalf("P6: NewRules(%q) = %v, %d, %d", text, r, e, at)
	}
	mustKeep(t, r, func(f, s int) bool { return keepsByPattern(text, f, s) })
	return OK
}

func TestRulesAgainstPatterns(t *testing.T) {
	random := rand.New(rand.NewPCG(7, 8))
	froms := append(strings.Fields(facilityList), "*", "*", "mail,news", "kern,local0,local7", "alert,audit")
	graves := append(strings.Fields(severityList), "*", "=err", "=alert", "=debug", "=emerg")
	seen := map[Errno]int{}
	for range 1500 {
		text := ""
		for range random.IntN(15) {
			line := froms[random.IntN(len(froms))] + "." + graves[random.IntN(len(graves))] + []string{" keep", " drop"}[random.IntN(2)]
			if random.IntN(12) == 0 {
				line = mutatedRule(random, line)
			}
			text += line + "\n"
		}
		if text != "" && random.IntN(20) == 0 {
			text = text[:random.IntN(len(text))]
		}
		seen[checkRules(t, text)]++
	}
	for _, e := range []Errno{OK, ErrRule} {
		if seen[e] < 100 {
			t.Errorf("only %d texts gave %d", seen[e], e)
		}
	}
}

// mutatedRule changes a line at one place; what it puts there is what rules are made of.
func mutatedRule(random *rand.Rand, line string) string {
	const marks = "*.=, \nekpdrol07aDK"
	from := random.IntN(len(line) + 1)
	to := min(len(line), from+random.IntN(3))
	at := random.IntN(len(marks))
	return line[:from] + marks[at:min(len(marks), at+random.IntN(2))] + line[to:]
}

func FuzzRules(f *testing.F) {
	f.Add("mail,news.=info drop\n*.err keep\n*.* drop\n")
	f.Add("")
	f.Add(strings.Repeat("*.* keep\n", 13))
	f.Fuzz(func(t *testing.T, text string) { checkRules(t, text) })
}
