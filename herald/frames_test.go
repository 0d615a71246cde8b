package herald

import (
	"math"
	"math/rand/v2"
	"slices"
	"strconv"
	"strings"
	"testing"
)

func mustFrames(t *testing.T, bound int) *Frames {
	t.Helper()
	f, e := NewFrames(bound)
	if f == nil || e != OK {
		t.Fatalf("P5: NewFrames(%d) = %v, %d", bound, f, e)
	}
	return f
}

func mustFeed(t *testing.T, f *Frames, bytes string, left int, want ...string) {
	t.Helper()
	if told, n := f.Feed(bytes); !slices.Equal(told, want) || n != left {
		t.Errorf("P5: bound %d, Feed(%.60q) = %.300q, %d, want %.300q, %d", f.bound, bytes, told, n, want, left)
	}
}

func TestNewFramesBounds(t *testing.T) {
	for _, bound := range []int{math.MinInt, -200, -1, 0, 201, 1 << 32, math.MaxInt} {
		if f, e := NewFrames(bound); f != nil || e != ErrArg {
			t.Errorf("P5: NewFrames(%d) = %v, %d", bound, f, e)
		}
	}
	for bound := 1; bound <= 200; bound++ {
		mustFeed(t, mustFrames(t, bound), "", 0)
	}
}

func TestFeedExample(t *testing.T) {
	f := mustFrames(t, 9)
	mustFeed(t, f, "3 abcx y\n1", 1, "=abc", "=x y")
	mustFeed(t, f, "0 ", 0, "!")
	mustFeed(t, f, "abc\nz\n", 0, "=z")
}

func TestFeedAtTheBound(t *testing.T) {
	for bound := 1; bound <= 200; bound++ {
		f := mustFrames(t, bound)
		full := strings.Repeat("f", bound)
		number := strconv.Itoa(bound)
		mustFeed(t, f, number+" "+full[1:], len(number)+bound)
		mustFeed(t, f, "f", 0, "="+full)
		mustFeed(t, f, full, bound)
		mustFeed(t, f, "\n", 0, "="+full)
		// A line is told to be bad by the first byte above the bound, a number by the first digit that brings it above.
		mustFeed(t, f, full, bound)
		mustFeed(t, f, "f", 0, "!")
		mustFeed(t, f, "f\n", 0)
		above := strconv.Itoa(bound + 1)
		mustFeed(t, f, above[:len(above)-1], len(above)-1)
		mustFeed(t, f, above[len(above)-1:]+" ", 0, "!")
		mustFeed(t, f, full+full+"\n"+number, len(number))
		mustFeed(t, f, "0", 0, "!")
		mustFeed(t, f, "\n", 0)
	}
}

func TestFeedFirstByte(t *testing.T) {
	for c := range 256 {
		f := mustFrames(t, 9)
		first := string([]byte{byte(c)})
		switch {
		case c == 10:
			mustFeed(t, f, first, 0)
			mustFeed(t, f, "x\n", 0, "=x")
		case '1' <= c && c <= '9':
			mustFeed(t, f, first, 1)
			mustFeed(t, f, " ", 2)
			mustFeed(t, f, "123456789"[:c-'1'], 1+c-'0')
			mustFeed(t, f, "\n", 0, "="+"123456789"[:c-'1']+"\n")
		default:
			mustFeed(t, f, first, 1)
			mustFeed(t, f, "1 x\n", 0, "="+first+"1 x")
		}
	}
}

func TestFeedBehindDigits(t *testing.T) {
	for c := range 256 {
		behind := string([]byte{byte(c)})
		for _, digits := range []string{"1", "12", "120"} {
			f := mustFrames(t, 199)
			mustFeed(t, f, digits, len(digits))
			switch {
			case c == ' ':
				mustFeed(t, f, behind, len(digits)+1)
			case isDigit(byte(c)) && len(digits) < 3:
				mustFeed(t, f, behind, len(digits)+1)
			case c == 10:
				mustFeed(t, f, behind+"x\n", 0, "!", "=x")
			default:
				mustFeed(t, f, behind, 0, "!")
				mustFeed(t, f, "1 x", 0)
				mustFeed(t, f, "!\nx\n", 0, "=x")
			}
		}
	}
}

func TestFeedLineEnds(t *testing.T) {
	f := mustFrames(t, 3)
	mustFeed(t, f, "\n\n\n", 0)
	mustFeed(t, f, "a\n\n\nb\n\n2 \n\n\n", 0, "=a", "=b", "=\n\n")
	mustFeed(t, f, "\r\n", 0, "=\r")
	mustFeed(t, f, "a 1\n", 0, "=a 1")
	mustFeed(t, f, "01\n", 0, "=01")
	mustFeed(t, f, "1 a1 b", 0, "=a", "=b")
	mustFeed(t, f, "1  ", 0, "= ")
	mustFeed(t, f, "!=\n=\n!\n", 0, "=!=", "==", "=!")
	// A frame that was begun is not told, but counted until it ends.
	mustFeed(t, f, "3 a\n", 4)
	mustFeed(t, f, "", 4)
	mustFeed(t, f, "\nx", 1, "=a\n\n")
}

func TestFeedBadUntilTheLineEnd(t *testing.T) {
	f := mustFrames(t, 2)
	for _, c := range []struct {
		bytes string
		left  int
		want  []string
	}{
		{"abc", 0, []string{"!"}},
		{"1 a", 0, nil},
		{"2 \n", 0, nil},
		{"1x\n1y\n1\n", 0, []string{"!", "!", "!"}},
		{"3 abc\nx\n", 0, []string{"!", "=x"}},
		{"2 abc", 1, []string{"=ab"}},
		{"de", 0, []string{"!"}},
		{"", 0, nil},
		{"\n\n2", 1, nil},
		{strings.Repeat("9", 1<<20), 0, []string{"!"}},
		{strings.Repeat("x", 1<<20), 0, nil},
		{strings.Repeat("\n", 1<<20), 0, nil},
		{strings.Repeat("y", 1<<20), 0, []string{"!"}},
		{"\nz\n", 0, []string{"=z"}},
	} {
		mustFeed(t, f, c.bytes, c.left, c.want...)
	}
}

func TestFeedByTurns(t *testing.T) {
	f, g := mustFrames(t, 4), mustFrames(t, 2)
	mustFeed(t, f, "4 a", 3)
	mustFeed(t, g, "2 x", 3)
	mustFeed(t, f, "bcd", 0, "=abcd")
	mustFeed(t, g, "abc", 2, "=xa")
	mustFeed(t, f, "xy", 2)
	mustFeed(t, g, "", 2)
	mustFeed(t, f, "z", 3)
	mustFeed(t, g, "z", 0, "!")
	mustFeed(t, f, "\n", 0, "=xyz")
	mustFeed(t, g, "1 a\n1 a", 0, "=a")
}

func TestFeedListsAreTheCallers(t *testing.T) {
	f := mustFrames(t, 4)
	first, _ := f.Feed("ab\ncd\nef")
	kept := append([]string(nil), first...)
	for i := range first {
		first[i] = "mine"
	}
	first = append(first[:0], "mine", "mine", "mine", "mine")
	second, _ := f.Feed("g\nh\n")
	if !slices.Equal(kept, []string{"=ab", "=cd"}) || !slices.Equal(second, []string{"=efg", "=h"}) {
		t.Errorf("P2: %q, then %q", kept, second)
	}
	third, _ := f.Feed("i\nj\n")
	if !slices.Equal(second, []string{"=efg", "=h"}) || !slices.Equal(third, []string{"=i", "=j"}) || first[3] != "mine" {
		t.Errorf("P2: %q, then %q", second, third)
	}
}

func TestFramesLeftEarly(t *testing.T) {
	f := mustFrames(t, 4)
	for what := range f.found("a\nb\ncccccc") {
		if what != "=a" {
			t.Errorf("left too late: %q", what)
		}
		break
	}
	mustFeed(t, f, "d\n", 0, "=d")
	for range f.found("ccccc\nb\n") {
		break
	}
	mustFeed(t, f, "d\ne\n", 0, "=e")
}

func TestFeedOnNothing(t *testing.T) {
	f, _ := NewFrames(0)
	if told, n := f.Feed("a\n"); len(told) != 0 || n != 0 {
		t.Errorf("P1: %q, %d", told, n)
	}
}

// framesAtOnce is Feed of all bytes, written anew for a text that is there as a whole.
func framesAtOnce(text string, bound int) (told []string, left int) {
	for {
		text = strings.TrimLeft(text, "\n")
		line, behind, ended := strings.Cut(text, "\n")
		digits := line[:len(line)-len(strings.TrimLeft(line, "0123456789"))]
		counted := digits != "" && digits[0] != '0'
		number, err := strconv.Atoi(digits)
		tooGreat := counted && (err != nil || number > bound)
		noBlank := counted && len(digits) < len(text) && text[len(digits)] != ' '
		switch {
		case tooGreat, noBlank, !counted && len(line) > bound:
			told = append(told, "!")
			if !ended {
				return told, 0
			}
			text = behind
		case counted && len(text) > len(digits)+number:
			end := len(digits) + 1 + number
			told = append(told, "="+text[len(digits)+1:end])
			text = text[end:]
		case counted, !ended:
			return told, len(text)
		default:
			told = append(told, "="+line)
			text = behind
		}
	}
}

// checkPieces feeds a text in pieces whose lengths are told one by one, and holds that against the whole.
func checkPieces(t *testing.T, text string, bound int, length func() int) {
	t.Helper()
	want, left := framesAtOnce(text, bound)
	mustFeed(t, mustFrames(t, bound), text, left, want...)
	f := mustFrames(t, bound)
	var told []string
	n := 0
	for rest := text; rest != ""; {
		cut := min(len(rest), length())
		var some []string
		some, n = f.Feed(rest[:cut])
		told = append(told, some...)
		rest = rest[cut:]
	}
	if !slices.Equal(told, want) || n != left {
		t.Fatalf("P9: %q, bound %d, in pieces %q, %d, as a whole %q, %d", text, bound, told, n, want, left)
	}
}

var framePieces = []string{"1", "2 ", "3 abc", "x", "\n", "0", " ", "12", "yy\n", "9 ", "10 0123456789", "\r\n", "\xff", "\x00", "199", "200 ", "abcdefgh", "<13>x\n"}

func TestFeedPieces(t *testing.T) {
	random := rand.New(rand.NewPCG(5, 6))
	for range 4000 {
		text := ""
		for range random.IntN(25) {
			text += framePieces[random.IntN(len(framePieces))]
		}
		bound := 1 + random.IntN(14)
		if random.IntN(4) == 0 {
			bound = 186 + random.IntN(15)
			text += strings.Repeat("long ", random.IntN(50))
		}
		checkPieces(t, text, bound, func() int { return 1 })
		checkPieces(t, text, bound, func() int { return random.IntN(9) })
	}
}

func FuzzFeed(f *testing.F) {
	f.Add("3 abcx y\n10 abc\nz\n", 9, 1)
	f.Add("200 "+strings.Repeat("w", 200)+strings.Repeat("v", 201)+"\n1\n", 200, 7)
	f.Fuzz(func(t *testing.T, text string, bound, length int) {
		if bound < 1 || bound > 200 || length < 1 {
			t.Skip()
		}
		checkPieces(t, text, bound, func() int { return length })
	})
}
