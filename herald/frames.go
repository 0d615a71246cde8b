package herald

import "iter"

const (
	maxFrames = 200
	lineEnd   = '\n'

	// What Feed tells: a mark ahead of a frame's bytes, or one in place of a bad frame.
	frameMark = "="
	badMark   = "!"
)

// stage tells what the next byte may be of.
type stage int

const (
	atBeginning stage = iota
	inNumber
	inCounted
	inLine
	passingOver
)

// Frames finds frames in what comes in. It goes on byte by byte, so that nothing hangs on how the bytes are cut into pieces.
type Frames struct {
	bound int
	stage stage
	// Of a counted frame: how many bytes are ahead of its own, and how many its own are, as far as the digits have come.
	head, number int
	// own is what has come of the frame itself.
	own []byte
}

// NewFrames makes one that has seen no byte (P5).
func NewFrames(bound int) (*Frames, Errno) {
	if bound < 1 || bound > maxFrames {
		return nil, ErrArg
	}
	return &Frames{bound: bound}, OK
}

// Feed tells the frames that end in some bytes (P5).
func (f *Frames) Feed(bytes string) ([]string, int) {
	if f == nil {
		return nil, 0
	}
	var told []string
	for what := range f.found(bytes) {
		told = append(told, what)
	}
	return told, f.head + len(f.own)
}

// found goes through what the bytes bring to an end, and takes in no byte behind that at which it is left.
func (f *Frames) found(bytes string) iter.Seq[string] {
	return func(yield func(string) bool) {
		for i := range len(bytes) {
			what := f.take(bytes[i])
			if what != "" && !yield(what) {
				return
			}
		}
	}
}

// take tells what a byte brings to an end; the empty string, if that is nothing.
func (f *Frames) take(c byte) string {
	if f.stage == atBeginning {
		f.stage = inLine
		if isDigit(c) && c != '0' {
			f.stage = inNumber
		}
	}
	switch f.stage {
	case inNumber:
		return f.takeOfNumber(c)
	case inCounted:
		return f.takeOfCounted(c)
	case inLine:
		return f.takeOfLine(c)
	default:
		f.passOver(c)
		return ""
	}
}

// takeOfNumber needs no bound for the digits: a number that is too great is bad at once.
func (f *Frames) takeOfNumber(c byte) string {
	f.head++
	switch {
	case isDigit(c):
		f.number = 10*f.number + int(c-'0')
		if f.number > f.bound {
			return f.endBad(c)
		}
	case c == ' ':
		f.stage = inCounted
	default:
		return f.endBad(c)
	}
	return ""
}

func (f *Frames) takeOfCounted(c byte) string {
	f.own = append(f.own, c)
	if len(f.own) < f.number {
		return ""
	}
	return f.endFrame()
}

func (f *Frames) takeOfLine(c byte) string {
	switch {
	case c == lineEnd && len(f.own) == 0:
		f.stage = atBeginning
		return ""
	case c == lineEnd:
		return f.endFrame()
	case len(f.own) == f.bound:
		return f.endBad(c)
	}
	f.own = append(f.own, c)
	return ""
}

func (f *Frames) passOver(c byte) {
	if c == lineEnd {
		f.stage = atBeginning
	}
}

func (f *Frames) endFrame() string {
	told := frameMark + string(f.own)
	*f = Frames{bound: f.bound}
	return told
}

// endBad passes over the byte that told it, too, as that may be the line end.
func (f *Frames) endBad(c byte) string {
	*f = Frames{bound: f.bound, stage: passingOver}
	f.passOver(c)
	return badMark
}
