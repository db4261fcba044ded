package wire

import (
	"baton/api"
	"baton/shift"
)

// writer gathers the bytes of a message. It is handed only what may be, so nothing can go wrong.
type writer struct {
	b []byte
}

func (w *writer) told() string {
	return string(w.b)
}

func (w *writer) number(n int) {
	w.b = append(w.b, shift.Var(uint64(n))...)
}

func (w *writer) numbers(l ...int) {
	for _, n := range l {
		w.number(n)
	}
}

func (w *writer) text(s string) {
	w.number(len(s))
	w.b = append(w.b, s...)
}

func (w *writer) yes(is bool) {
	if is {
		w.number(1)
	} else {
		w.number(0)
	}
}

func (w *writer) req(r api.Req) {
	w.numbers(r.Kind, r.Who, r.Seq)
	w.yes(r.Once)
	w.text(r.Key)
	w.text(r.Value)
	w.numbers(r.Lease, r.Rev, r.TTL, r.Token)
	writeList(w, r.Txn.If, (*writer).cmp)
	writeList(w, r.Txn.Then, (*writer).mut)
	writeList(w, r.Txn.Else, (*writer).mut)
}

func (w *writer) cmp(c api.Cmp) {
	w.text(c.Key)
	w.numbers(c.What, c.How, c.N)
	w.text(c.Value)
}

func (w *writer) mut(m api.Mut) {
	w.yes(m.Gone)
	w.text(m.Key)
	w.text(m.Value)
	w.number(m.Lease)
}

func (w *writer) reply(r api.Reply) {
	w.numbers(int(r.Code), r.Who, r.Seq, r.Rev, r.Lease, r.TTL)
	w.yes(r.Yes)
	writeList(w, r.KVs, (*writer).kv)
	writeList(w, r.Events, (*writer).event)
}

func (w *writer) kv(x api.KV) {
	w.text(x.Key)
	w.text(x.Value)
	w.numbers(x.Create, x.Mod, x.Version, x.Lease)
}

func (w *writer) event(e api.Event) {
	w.number(e.Rev)
	w.yes(e.Gone)
	w.kv(e.KV)
}

// writeList tells how many things l has, and each of them by one.
func writeList[T any](w *writer, l []T, one func(*writer, T)) {
	w.number(len(l))
	for _, x := range l {
		one(w, x)
	}
}
