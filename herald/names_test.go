package herald

import (
	"math"
	"strings"
	"testing"
)

func checkNumberOf(t *testing.T, call func(string) (int, Errno), list string, first int) {
	t.Helper()
	for i, name := range strings.Fields(list) {
		if n, e := call(name); n != first+i || e != OK {
			t.Errorf("the number of %q is %d, %d, want %d", name, n, e, first+i)
		}
	}
	for _, name := range []string{"", "*", "x", "Kern", "local", "local8", "local10", "kern ", "EMERG", "jan", "Janu"} {
		if n, e := call(name); n != 0 || e != ErrArg {
			t.Errorf("the number of %q is %d, %d", name, n, e)
		}
	}
}

func TestNumbersOfNames(t *testing.T) {
	checkNumberOf(t, NumberOfFacility, facilityList, 0)
	checkNumberOf(t, NumberOfSeverity, severityList, 0)
	checkNumberOf(t, NumberOfMonth, monthList, 1)
}

func TestNameOfFacility(t *testing.T) {
	for number, want := range strings.Fields(facilityList) {
		if name, e := NameOfFacility(number); name != want || e != OK {
			t.Errorf("NameOfFacility(%d) = %q, %d, want %q", number, name, e, want)
		}
	}
	for _, number := range []int{math.MinInt, -1, 24, math.MaxInt} {
		if name, e := NameOfFacility(number); name != "" || e != ErrArg {
			t.Errorf("NameOfFacility(%d) = %q, %d", number, name, e)
		}
	}
}
