package wire

import (
	"baton/api"
	"baton/shift"
)

// reader goes through the bytes of a message. At what is wrong it stops: from there on it answers zero values, so
// that who reads need not ask at each step.
type reader struct {
	s     string
	at    int
	wrong bool
}

// done tells whether all was read, and nothing was wrong.
func (r *reader) done() bool {
	return !r.wrong && r.at == len(r.s)
}

func (r *reader) number() int {
	if r.wrong {
		return 0
	}
	n, at, e := shift.Read(r.s, r.at)
	// A greater number might not even be one of an int.
	if e != api.OK || n > api.MaxNumber {
		r.wrong = true
		return 0
	}
	r.at = at
	return int(n)
}

// upTo reads a number that is wrong if it is above most.
func (r *reader) upTo(most int) int {
	n := r.number()
	if n > most {
		r.wrong = true
		return 0
	}
	return n
}

// first reads the byte by which a request and a reply are told apart.
func (r *reader) first(want int) {
	if r.number() != want {
		r.wrong = true
	}
}

func (r *reader) text() string {
	n := r.number()
	if n > len(r.s)-r.at {
		r.wrong = true
		return ""
	}
	r.at += n
	return r.s[r.at-n : r.at]
}

func (r *reader) yes() bool {
	return r.upTo(1) == 1
}

// The calls of a literal are made in the order in which they stand there, which is that of the bytes.

func (r *reader) req() api.Req {
	return api.Req{
		Kind:  r.number(),
		Who:   r.number(),
		Seq:   r.number(),
		Once:  r.yes(),
		Key:   r.text(),
		Value: r.text(),
		Lease: r.number(),
		Rev:   r.number(),
		TTL:   r.number(),
		Token: r.number(),
		Txn: api.Txn{
			If:   readList(r, api.MaxList, (*reader).cmp),
			Then: readList(r, api.MaxList, (*reader).mut),
			Else: readList(r, api.MaxList, (*reader).mut),
		},
	}
}

func (r *reader) cmp() api.Cmp {
	return api.Cmp{
		Key:   r.text(),
		What:  r.number(),
		How:   r.number(),
		N:     r.number(),
		Value: r.text(),
	}
}

func (r *reader) mut() api.Mut {
	return api.Mut{
		Gone:  r.yes(),
		Key:   r.text(),
		Value: r.text(),
		Lease: r.number(),
	}
}

func (r *reader) reply() api.Reply {
	return api.Reply{
		Code:   api.Errno(r.number()),
		Who:    r.number(),
		Seq:    r.number(),
		Rev:    r.number(),
		Lease:  r.number(),
		TTL:    r.number(),
		Yes:    r.yes(),
		KVs:    readList(r, api.MaxKeys, (*reader).kv),
		Events: readList(r, api.MaxKeys, (*reader).event),
	}
}

func (r *reader) kv() api.KV {
	return api.KV{
		Key:     r.text(),
		Value:   r.text(),
		Create:  r.number(),
		Mod:     r.number(),
		Version: r.number(),
		Lease:   r.number(),
	}
}

func (r *reader) event() api.Event {
	return api.Event{
		Rev:  r.number(),
		Gone: r.yes(),
		KV:   r.kv(),
	}
}

// readList reads how many things a list has, and each of them by one. More than most are wrong at once, so that a
// few bytes can't ask for a long list.
func readList[T any](r *reader, most int, one func(*reader) T) []T {
	var l []T
	for range r.upTo(most) {
		l = append(l, one(r))
		if r.wrong {
			return nil
		}
	}
	return l
}
