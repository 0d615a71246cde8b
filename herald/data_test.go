package herald

import (
	"slices"
	"strconv"
	"strings"
	"testing"
)

var goodData = []string{
	`[a]`, `[-]`, `[[]`, `[\]`, `[!~]`, `[abcdefghijkl]`, `[a][b]`, `[a][A]`, `[a][b][c][d]`, `[a][aa]`,
	`[a x=""]`, `[a x="" x=""]`, `[a a=""]`, `[a x="y"][x y="a"]`, `[a x="\""]`, `[a x="\\"]`, `[a x="\]"]`, `[a x="\\\""]`,
	`[a x="["]`, `[a x="= -'"]`, `[a x="\][b"]`, `[a abcdefghijkl=""]`, "[a x=\"\u00e9\U0010ffff\"]", "[a x=\"\u0080\"]", `[a x=" "]`,
}

var badData = []string{
	`x`, `[`, `]`, `[]`, `[ a]`, `[a`, `[a ]`, `[a  x=""]`, `[a x]`, `[a x=]`, `[a x="]`, `[a x=y]`, `[a x="y]`, `[a x='y']`, `[a =""]`, `[a x=""`, `[a x="" ]`, `[a x=""y=""]`, `[a x =""]`, `[a x= ""]`,
	`[a]x`, `[a]]`, `[a][`, `[a][]`, `[a]-`, `[a][b`, `[a][b]]`, `[a][a]`, `[a][b][a]`, `[a x=""][a]`, `[a=]`, `[a"]`, `[a="b"]`, `[abcdefghijklm]`, `[a abcdefghijklm=""]`,
	`[a x="]"]`, `[a x="\"]`, `[a x="\n"]`, `[a x="\ "]`, `[a x="\\\"]`, `[a x="""]`, `[a x="\`, `[a x="\[`, `[a x="\]`, `[a x="\ y=""]`,
	"[\u00e9]", "[a \u00e9=\"\"]", "[\x7f]", "[a x=\"\x7f\"]", "[a x=\"\x1f\"]", "[a x=\"\x00\"]", "[a x=\"\xff\"]", "[a x=\"\xc3\"]", "[a x=\"\xed\xa0\x80\"]", "[a x=\"\xc0\xaf\"]", "[a\tx=\"\"]",
}

func TestData(t *testing.T) {
	const head = "<0>1 - - - - - "
	for _, data := range goodData {
		mustRead(t, head+data, 1, Message{Data: data})
		mustRead(t, head+data+" ", 1, Message{Data: data})
		mustRead(t, head+data+" "+data, 1, Message{Data: data, Text: data})
		if line, e := Line(Message{Data: data}); line != head+data || e != OK {
			t.Errorf("P4: Line of the data %q = %q, %d", data, line, e)
		}
	}
	for _, data := range badData {
		mustRefuse(t, head+data, 1, ErrData, len(head))
		mustRefuse(t, head+data+" t", 1, ErrData, len(head))
		if line, e := Line(Message{Data: data}); line != "" || e != ErrData {
			t.Errorf("P4: Line of the data %q = %q, %d", data, line, e)
		}
	}
	mustRefuse(t, head+"-x", 1, ErrData, len(head))
	mustRefuse(t, head+"-[a]", 1, ErrData, len(head))
	mustRefuse(t, head+"--", 1, ErrData, len(head))
	for _, data := range []string{"-", "-[a]", "[a] ", " [a]", "[a] [b]", "[a] t"} {
		if line, e := Line(Message{Data: data}); line != "" || e != ErrData {
			t.Errorf("P4: Line of the data %q = %q, %d", data, line, e)
		}
	}
}

func TestElements(t *testing.T) {
	const text = `[a][b x="\]"][a][cd]rest[e]`
	var names []string
	var ends []int
	for name, end := range elements(text) {
		names, ends = append(names, name), append(ends, end)
	}
	if !slices.Equal(names, []string{"a", "b", "a", "cd"}) || !slices.Equal(ends, []int{3, 13, 16, 20}) {
		t.Errorf("elements: %q, %v", names, ends)
	}
	left := 0
	for name := range elements(text) {
		left++
		if name == "b" {
			break
		}
	}
	if left != 2 {
		t.Errorf("elements, left at the second: %d", left)
	}
}

// Data of many names must not cost the square of their number.
func TestDataOfManyElements(t *testing.T) {
	var all strings.Builder
	for i := range 300000 {
		all.WriteString("[" + strconv.Itoa(i) + "]")
	}
	if _, e := Line(Message{Data: all.String()}); e != ErrLong {
		t.Errorf("P4: Line of data with many elements: %d", e)
	}
	if _, e := Line(Message{Data: all.String() + "[0]"}); e != ErrData {
		t.Errorf("P4: Line of data with many elements, two of them alike: %d", e)
	}
}
