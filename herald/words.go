package herald

// The words of a line that are told alike, in their order.
const (
	hostWord = iota
	appWord
	procWord
	idWord
	wordCount
)

// wordKind tells how long a word may be, and the error for one that is none.
type wordKind struct {
	most int
	none Errno
}

var wordKinds = [wordCount]wordKind{{32, ErrHost}, {16, ErrApp}, {16, ErrProc}, {12, ErrId}}
