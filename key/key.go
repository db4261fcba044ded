// Package key is layer 2, what keys are named: see shared/doc/02-key.md.
package key

import (
	"strings"

	"baton/api"
)

// letters are those of the kinds: kinds that have to meet share one, and so a prefix.
var letters = [...]string{
	api.Mutex:   "m",
	api.Reader:  "l",
	api.Writer:  "l",
	api.Permit:  "s",
	api.Leader:  "e",
	api.Party:   "p",
	api.Enqueue: "q",
	api.Dequeue: "q",
}

// How an id is told: in so many digits, each of so many bits.
const (
	digits    = "0123456789abcdef"
	digitBits = 4
	idDigits  = 10
)

// open is what a party's flag has behind its prefix.
const open = "open"

// Check tells whether k is a key that may be.
func Check(k string) bool {
	return made(k, api.MaxKey, between('!', '~'))
}

// Name tells whether s is a name that may be.
func Name(s string) bool {
	letter, digit := between('a', 'z'), between('0', '9')
	return made(s, api.MaxName, func(c byte) bool { return letter(c) || digit(c) })
}

// Prefix tells what all keys of a kind and a name begin with.
func Prefix(kind int, name string) (string, bool) {
	if kind < 0 || kind >= len(letters) || letters[kind] == "" || !Name(name) {
		return "", false
	}
	return letters[kind] + "/" + name + "/", true
}

// Ticket tells the key of the ticket id of a kind and a name.
func Ticket(kind int, name string, id int) (string, bool) {
	prefix, is := Prefix(kind, name)
	if !is || id < 0 || id > api.MaxNumber {
		return "", false
	}
	return prefix + hex(id), true
}

// Id tells the id that k tells behind prefix.
func Id(prefix string, k string) (int, bool) {
	rest, is := strings.CutPrefix(k, prefix)
	if !is || len(rest) != idDigits {
		return 0, false
	}
	id := 0
	for _, c := range []byte(rest) {
		worth := strings.IndexByte(digits, c)
		if worth < 0 {
			return 0, false
		}
		id = id<<digitBits | worth
	}
	return id, true
}

// Flag tells the key by which a party is open.
func Flag(name string) (string, bool) {
	prefix, is := Prefix(api.Party, name)
	if !is {
		return "", false
	}
	return prefix + open, true
}

// Under tells whether k begins with prefix, and is longer.
func Under(prefix string, k string) bool {
	return len(k) > len(prefix) && strings.HasPrefix(k, prefix)
}

// made tells whether s has 1 to most bytes, all of them such as may tells.
func made(s string, most int, may func(byte) bool) bool {
	if s == "" || len(s) > most {
		return false
	}
	for _, c := range []byte(s) {
		if !may(c) {
			return false
		}
	}
	return true
}

// between makes the question whether a byte is low to high.
func between(low byte, high byte) func(byte) bool {
	return func(c byte) bool { return low <= c && c <= high }
}

// hex tells id in digits of base 16, always as many, so that the order of texts is that of ids.
func hex(id int) string {
	var told [idDigits]byte
	for i := idDigits - 1; i >= 0; i-- {
		told[i] = digits[id%len(digits)]
		id >>= digitBits
	}
	return string(told[:])
}
