// Package herald: messages of machines, taken in, sorted out, and kept till somebody has them: see DOC.md.
package herald

// Errno is what a call answers: OK or the reason for a refusal.
type Errno int

const (
	OK        Errno = 0
	ErrLong   Errno = 1  // a text above its bound
	ErrSource Errno = 2  // no facility, or no severity
	ErrTime   Errno = 3  // no time
	ErrHost   Errno = 4  // no host
	ErrApp    Errno = 5  // no app
	ErrProc   Errno = 6  // no proc
	ErrId     Errno = 7  // no id
	ErrData   Errno = 8  // no data
	ErrText   Errno = 9  // no text
	ErrArg    Errno = 10 // a number that may not be, or nothing where something must be
	ErrRule   Errno = 11 // no rule
	ErrMany   Errno = 12 // too many messages
)

// Message is what a machine says; a text that is empty stands for one that is not told.
type Message struct {
	Facility, Severity        int
	Time, Host, App, Proc, Id string
	Data, Text                string
}
