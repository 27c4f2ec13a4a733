package mosaic

import (
	"strings"

	"mosaic/addr"
	"mosaic/api"
)

const (
	maxText    = 262144 // bytes of a text or a script
	maxLines   = 4096
	maxLine    = 131200 // bytes of a line
	maxDigits  = 10     // of a number
	maxPattern = 70000  // bytes that are told by their number alone
	turn       = 251    // how many bytes a pattern has until it begins again
	hexDigits  = "0123456789abcdef"
)

// form is a line of numbers alone: its word, and how many numbers stand behind it.
type form struct {
	word    string
	numbers int
}

// forms are those of a world's text, then those of commands: no word is of both.
var forms = [...]form{
	{"host", 0},
	{"hop", 0},
	{"quota", 4},
	{"paths", 2},
	{"window", 1},
	{"queue", 2},
	{"sockets", 1},
	{"life", 1},
	{"link", 5},
	{"shut", 2},
	{"recv", 2},
	{"forward", 1},
	{"drop", 1},
	{"twin", 1},
	{"swap", 2},
	{"spoil", 3},
	{"recut", 2},
	{"tick", 0},
	{"run", 1},
	{"flight", 0},
	{"state", 1},
	{"clear", 0},
	{"now", 0},
}

// linesOf are the lines of a text; ErrLine: it has too many bytes or lines.
func linesOf(text string) ([]string, api.Errno) {
	if len(text) > maxText {
		return nil, api.ErrLine
	}
	l := strings.Split(text, "\n")
	if last := len(l) - 1; l[last] == "" {
		l = l[:last]
	}
	if len(l) > maxLines {
		return nil, api.ErrLine
	}
	return l, api.OK
}

// words are those of a line that have not been read. Where they are not as they must be, the reading gives up by panic.
type words struct{ left []string }

// readLine lets the words of a line be read, all of them; ErrLine: the reading gave up. A line without words is not read.
func readLine(line string, read func(r *words)) (e api.Errno) {
	if len(line) > maxLine || strings.Contains(line, "\n") {
		return api.ErrLine
	}
	defer func() {
		if recover() != nil {
			e = api.ErrLine
		}
	}()
	r := wordsOf(line)
	if len(r.left) == 0 {
		return api.OK
	}
	read(r)
	must(len(r.left) == 0)
	return api.OK
}

func wordsOf(line string) *words {
	said, _, _ := strings.Cut(line, "#")
	// Not strings.Fields: other white space than these two bytes is part of a word.
	return &words{strings.FieldsFunc(said, func(c rune) bool { return c == ' ' || c == '\t' })}
}

// must gives up where a thing is not so.
func must(so bool) {
	if !so {
		panic(api.ErrLine)
	}
}

func (r *words) word() string {
	must(len(r.left) > 0)
	word := r.left[0]
	r.left = r.left[1:]
	return word
}

// takes reads a word that may be left out, and says whether it is there.
func (r *words) takes(word string) bool {
	if len(r.left) == 0 || r.left[0] != word {
		return false
	}
	r.word()
	return true
}

func (r *words) number() int { return numberOf(r.word()) }

// numbers reads those that stand behind a word, if lines that begin with it have numbers alone.
func (r *words) numbers(word string) []int {
	for _, f := range forms {
		if f.word != word {
			continue
		}
		var l []int
		for range f.numbers {
			l = append(l, r.number())
		}
		return l
	}
	panic(api.ErrLine)
}

func (r *words) address() api.Addr {
	a, e := addr.Parse(r.word())
	must(e == api.OK)
	return a
}

func (r *words) bytes() []byte {
	word := r.word()
	if count, is := strings.CutPrefix(word, "*"); is {
		return pattern(numberOf(count))
	}
	return spelt(word)
}

// flags reads those of a send, which may be left out.
func (r *words) flags() api.Flags {
	f := api.Flags{DF: r.takes("df"), NoSum: r.takes("nosum")}
	if len(r.left) == 0 {
		return f
	}
	if list, is := strings.CutPrefix(r.left[0], "opts="); is {
		r.word()
		f.Opts = spelt(list)
	}
	return f
}

// numberOf reads a number by hand: the library's reading takes signs.
func numberOf(text string) int {
	must(len(text) >= 1 && len(text) <= maxDigits)
	n := 0
	for _, c := range []byte(text) {
		must(c >= '0' && c <= '9')
		n = 10*n + int(c-'0')
	}
	return n
}

// pattern are the bytes that are told by their number alone.
func pattern(n int) []byte {
	must(n <= maxPattern)
	b := make([]byte, n)
	for i := range b {
		b[i] = byte(i % turn)
	}
	return b
}

// spelt are the bytes that are told digit by digit.
func spelt(text string) []byte {
	digits, is := strings.CutPrefix(text, ":")
	must(is && len(digits)%2 == 0)
	b := make([]byte, len(digits)/2)
	for i := range b {
		b[i] = digit(digits[2*i])<<4 | digit(digits[2*i+1])
	}
	return b
}

func digit(c byte) byte {
	n := strings.IndexByte(hexDigits, c)
	must(n >= 0)
	return byte(n)
}
