package script

import (
	"slices"

	"baton/api"
	"baton/key"
)

// What ends a word, and a line.
const (
	blank = ' '
	feed  = '\n'
)

// Words that stand for what can't be shown: an empty text, and one that is no word.
const (
	empty   = "-"
	unshown = "?"
)

// maxDigits and maxBy are how many digits a number has, and by how many numbers a tick goes, at most.
const (
	maxDigits = 7
	maxBy     = 9
)

// Number tells the number whose digits s are.
func Number(s string) (int, bool) {
	if s == "" || len(s) > maxDigits || len(s) > 1 && s[0] == '0' {
		return 0, false
	}
	n := 0
	for _, c := range s {
		if !digit(c) {
			return 0, false
		}
		n = 10*n + int(c-'0')
	}
	return n, true
}

// moves are the words of moves, each in the place of its kind.
func moves() []string {
	return []string{
		api.Tick:    "tick",
		api.Step:    "step",
		api.Deliver: "deliver",
		api.Drop:    "drop",
		api.Copy:    "copy",
		api.Start:   "start",
		api.Release: "release",
		api.Tell:    "tell",
		api.Put:     "put",
		api.Pause:   "pause",
		api.Resume:  "resume",
		api.Crash:   "crash",
		api.Restart: "restart",
		api.Shrink:  "shrink",
	}
}

// recipes are the words of recipes, each in the place of its kind.
func recipes() []string {
	return []string{
		api.Mutex:   "mutex",
		api.Reader:  "reader",
		api.Writer:  "writer",
		api.Permit:  "permit",
		api.Leader:  "leader",
		api.Party:   "party",
		api.Enqueue: "enqueue",
		api.Dequeue: "dequeue",
	}
}

// wordOf tells the word in the place of kind; the empty one, which is none, if there is no such place.
func wordOf(l []string, kind int) string {
	if kind < 0 || kind >= len(l) {
		return ""
	}
	return l[kind]
}

// shown tells value as a word.
func shown(value string) string {
	switch {
	case value == "":
		return empty
	case plain(value):
		return value
	}
	return unshown
}

// plain tells whether s is a value that is its own word.
func plain(s string) bool {
	for _, c := range s {
		if !digit(c) && (c < 'a' || c > 'z') {
			return false
		}
	}
	return s != "" && len(s) <= api.MaxValue
}

// digit tells whether c is a digit.
func digit(c rune) bool {
	return '0' <= c && c <= '9'
}

// cut tells what stands in s between those of its runes that are at: always one piece more than there are of these.
func cut(s string, at rune) []string {
	var l []string
	from := 0
	for i, c := range s {
		if c == at {
			l = append(l, s[from:i])
			from = i + 1
		}
	}
	return append(l, s[from:])
}

// linesOf tells the lines of text. If it has none, there is one that is empty, and that is as wrong as none.
func linesOf(text string) []string {
	l := cut(text, feed)
	if last := len(l) - 1; last > 0 && l[last] == "" {
		return l[:last]
	}
	return l
}

// reader goes through the words of a line. Behind the last one it finds empty ones, which may not be anywhere, so
// that who reads need not ask at each step.
type reader struct {
	words []string
	err   error
}

// done tells what was wrong, if anything was, or is left.
func (r *reader) done() error {
	if len(r.words) > 0 {
		r.fails(errMore)
	}
	return r.err
}

// fails keeps in mind what was wrong first.
func (r *reader) fails(why error) {
	if r.err == nil {
		r.err = why
	}
}

// next reads a word.
func (r *reader) next() string {
	if len(r.words) == 0 {
		return ""
	}
	word := r.words[0]
	r.words = r.words[1:]
	return word
}

// one reads one of those words, and tells its place among them.
func (r *reader) one(l ...string) int {
	word := r.next()
	at := slices.Index(l, word)
	// A place where there is no word is nobody's.
	if at < 0 || word == "" {
		r.fails(errWord)
		return 0
	}
	return at
}

func (r *reader) number() int {
	n, is := Number(r.next())
	if !is {
		r.fails(errWord)
	}
	return n
}

func (r *reader) name() string {
	name := r.next()
	if !key.Name(name) {
		r.fails(errWord)
	}
	return name
}

func (r *reader) value() string {
	switch word := r.next(); {
	case word == empty:
		return ""
	case plain(word):
		return word
	}
	r.fails(errWord)
	return ""
}

// The calls of a literal are made in the order in which they stand there, which is that of the words.

func (r *reader) move() api.Move {
	m := api.Move{Kind: r.one(moves()...)}
	switch m.Kind {
	case api.Tick:
		for len(r.words) > 0 && len(m.By) < maxBy {
			m.By = append(m.By, r.number())
		}
	case api.Start:
		m.N, m.Mach = r.number(), r.machine()
	case api.Tell, api.Put:
		m.N, m.Value = r.number(), r.value()
	default:
		m.N = r.number()
	}
	return m
}

func (r *reader) machine() api.Machine {
	return api.Machine{
		Kind:  r.one(recipes()...),
		Name:  r.name(),
		N:     r.number(),
		Value: r.value(),
	}
}
