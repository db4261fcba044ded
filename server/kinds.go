package server

import (
	"baton/api"
	"baton/hist"
	"baton/lease"
	"baton/mvcc"
	"baton/txn"
	"baton/watch"
)

// deed is what is done of the requests of a kind.
type deed struct {
	do func(desk, api.Req) (desk, api.Reply, api.Errno)
	// rev is whether the reply tells the Store's revision behind it.
	rev bool
}

// deeds tells them by their kinds.
func deeds() map[int]deed {
	return map[int]deed{
		api.Range:   {do: desk.look, rev: true},
		api.Change:  {do: desk.change, rev: true},
		api.Watch:   {do: desk.watch},
		api.Grant:   {do: desk.grant},
		api.Keep:    {do: desk.keep},
		api.Revoke:  {do: desk.revoke, rev: true},
		api.Compact: {do: desk.compact, rev: true},
		api.Write:   {do: desk.write},
	}
}

// do tells s behind r, whatever was told of it ahead. The request is one that may be, so its kind has a deed.
func do(s api.Server, r api.Req) (api.Server, api.Reply, api.Errno) {
	its := deeds()[r.Kind]
	next, p, e := its.do(desk(s), r)
	if e != api.OK {
		return s, api.Reply{}, e
	}
	p.Who, p.Seq = r.Who, r.Seq
	if its.rev {
		p.Rev = next.Store.Rev
	}
	return api.Server(next), p, api.OK
}

// desk is the server as it is asked. Each of its methods does the requests of a kind: it tells the desk behind that,
// and what the reply has for that kind alone.
type desk api.Server

func (d desk) look(r api.Req) (desk, api.Reply, api.Errno) {
	l, e := mvcc.At(d.Store, r.Rev)
	return d, api.Reply{KVs: hist.From(l, r.Key)}, e
}

func (d desk) change(r api.Req) (desk, api.Reply, api.Errno) {
	// Both lists are asked: whether a lease is over must not hang on which of them is done.
	if !d.mayLay(r.Txn.Then) || !d.mayLay(r.Txn.Else) {
		return d, api.Reply{}, api.ErrLease
	}
	store, yes, _, e := txn.Do(d.Store, r.Txn)
	d.Store = store
	return d, api.Reply{Yes: yes}, e
}

func (d desk) watch(r api.Req) (desk, api.Reply, api.Errno) {
	events, next, e := watch.Since(d.Store, r.Key, r.Rev, api.MaxKeys)
	return d, api.Reply{Events: events, Rev: next}, e
}

func (d desk) grant(r api.Req) (desk, api.Reply, api.Errno) {
	leases, id, e := lease.Grant(d.Leases, r.TTL, d.Clock)
	d.Leases = leases
	return d, api.Reply{Lease: id, TTL: r.TTL}, e
}

func (d desk) keep(r api.Req) (desk, api.Reply, api.Errno) {
	leases, ttl, e := lease.Keep(d.Leases, r.Lease, d.Clock)
	d.Leases = leases
	return d, api.Reply{Lease: r.Lease, TTL: ttl}, e
}

func (d desk) revoke(r api.Req) (desk, api.Reply, api.Errno) {
	s, e := Sweep(api.Server(d), r.Lease)
	return desk(s), api.Reply{Lease: r.Lease}, e
}

func (d desk) compact(r api.Req) (desk, api.Reply, api.Errno) {
	store, e := mvcc.Shrink(d.Store, r.Rev)
	d.Store = store
	return d, api.Reply{}, e
}

// write refuses: a Write is for the resource.
func (d desk) write(api.Req) (desk, api.Reply, api.Errno) {
	return d, api.Reply{}, api.ErrArg
}

// mayLay tells whether all that l lays has a lease that it may have.
func (d desk) mayLay(l []api.Mut) bool {
	for _, m := range l {
		if !m.Gone && !mayHold(d.Leases, m.Lease) {
			return false
		}
	}
	return true
}
