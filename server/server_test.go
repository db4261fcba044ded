package server

import (
	"fmt"
	"math"
	"math/rand"
	"reflect"
	"slices"
	"strings"
	"testing"

	"baton/api"
	"baton/hist"
	"baton/mvcc"
	"baton/txn"
	"baton/wire"
)

const (
	maxNumber = 1<<40 - 1
	maxRev    = 1<<40 - 2
)

// done is s behind requests, none of which may fail.
func done(t *testing.T, s api.Server, l ...api.Req) api.Server {
	t.Helper()
	for _, r := range l {
		next, p := Do(s, r)
		if p.Code != api.OK {
			t.Fatalf("of %v the reply is %v", r, p)
		}
		s = next
	}
	return s
}

// put asks that k be laid, if it is not there.
func put(k string, lease int) api.Req {
	return api.Req{Kind: api.Change, Txn: txn.Put(k, "v", lease)}
}

// lay asks that all of ks be laid.
func lay(lease int, ks ...string) api.Req {
	r := api.Req{Kind: api.Change}
	for _, k := range ks {
		r.Txn.Then = append(r.Txn.Then, api.Mut{Key: k, Value: "v", Lease: lease})
	}
	return r
}

// grant asks for a lease.
func grant(ttl int) api.Req {
	return api.Req{Kind: api.Grant, TTL: ttl}
}

// once is r, to be done once, of who and seq.
func once(r api.Req, who, seq int) api.Req {
	r.Who, r.Seq, r.Once = who, seq, true
	return r
}

// two is a server with leases 1 (of 10) and 2 (of 20), and keys "a1", "a2" and "b" of lease 1, 2 and none, one behind
// the other.
func two(t *testing.T) api.Server {
	t.Helper()
	return done(t, New(), grant(10), grant(20), put("a1", 1), put("a2", 2), put("b", 0))
}

// long is s, with so many events in its Log, by laying "z" without a lease.
func long(t *testing.T, s api.Server, events int) api.Server {
	t.Helper()
	for len(s.Store.Log) < events {
		s = done(t, s, lay(0, "z"))
	}
	return s
}

// keys tells those that there are now.
func keys(s api.Server) string {
	var l []string
	for _, x := range mvcc.Now(s.Store) {
		l = append(l, x.Key)
	}
	return strings.Join(l, " ")
}

// ids tells those of the leases.
func ids(s api.Server) []int {
	var l []int
	for _, x := range s.Leases.L {
		l = append(l, x.Id)
	}
	return l
}

// copied is s in memory of its own.
func copied(s api.Server) api.Server {
	s.Store.Base, s.Store.Log = slices.Clone(s.Store.Base), slices.Clone(s.Store.Log)
	s.Leases.L = slices.Clone(s.Leases.L)
	s.Memos.L, s.Memos.Old = slices.Clone(s.Memos.L), slices.Clone(s.Memos.Old)
	for i := range s.Memos.L {
		p := &s.Memos.L[i].Reply
		p.KVs, p.Events = slices.Clone(p.KVs), slices.Clone(p.Events)
	}
	return s
}

// same holds two replies against each other, where a list that is empty may be nil.
func same(p, q api.Reply) bool {
	if !slices.Equal(p.KVs, q.KVs) || !slices.Equal(p.Events, q.Events) {
		return false
	}
	p.KVs, p.Events, q.KVs, q.Events = nil, nil, nil, nil
	return reflect.DeepEqual(p, q)
}

// tells asks r of s, and wants that reply, and, if it is an error, s itself.
func tells(t *testing.T, s api.Server, r api.Req, want api.Reply) api.Server {
	t.Helper()
	want.Who, want.Seq = r.Who, r.Seq
	u, p := Do(s, r)
	if !same(p, want) {
		t.Errorf("of %v the reply is %v, not %v", r, p, want)
	}
	if p.Code != api.OK && !reflect.DeepEqual(u, s) {
		t.Errorf("beside %d the server is %v", p.Code, u)
	}
	return u
}

// fails asks r of s, and wants that error, with nothing beside it.
func fails(t *testing.T, s api.Server, r api.Req, want api.Errno) {
	t.Helper()
	tells(t, s, r, api.Reply{Code: want})
}

// P10.1
func TestNew(t *testing.T) {
	s := New()
	if !reflect.DeepEqual(s, api.Server{Store: mvcc.New()}) || !May(s) {
		t.Errorf("it is %v", s)
	}
}

// P10.1
func TestMay(t *testing.T) {
	full := done(t, two(t), once(put("c", 1), 5, 1), once(grant(7), 5, 2), once(api.Req{Kind: api.Range}, 6, 1))
	for i, c := range []struct {
		change func(*api.Server)
		want   bool
	}{
		{func(s *api.Server) {}, true},

		{func(s *api.Server) { s.Clock = maxNumber }, true},
		{func(s *api.Server) { s.Clock = maxNumber + 1 }, false},
		{func(s *api.Server) { s.Clock = -1 }, false},
		{func(s *api.Server) { s.Clock = math.MaxInt }, false},
		{func(s *api.Server) { s.Clock = math.MinInt }, false},

		// Its parts.
		{func(s *api.Server) { s.Store.Rev = 2 }, false},
		{func(s *api.Server) { s.Store.Log[0].Rev = 9 }, false},
		{func(s *api.Server) { s.Leases.Next = 2 }, false},
		{func(s *api.Server) { s.Leases.L[0].TTL = 0 }, false},
		{func(s *api.Server) { s.Memos.L[1] = s.Memos.L[0] }, false},
		{func(s *api.Server) { s.Memos.Old = []api.Floor{{Who: 5, Seq: 1}} }, false},
		{func(s *api.Server) { s.Memos.Old = []api.Floor{{Who: 5, Seq: 0}} }, true},

		// Replies that are kept.
		{func(s *api.Server) { s.Memos.L[0].Reply.Code = api.ErrArg }, false},
		{func(s *api.Server) { s.Memos.L[2].Reply.Code = api.ErrBreach }, false},
		{func(s *api.Server) { s.Memos.L[0].Reply.Who = 6 }, false},
		{func(s *api.Server) { s.Memos.L[2].Reply.Who = 5 }, false},
		{func(s *api.Server) { s.Memos.L[0].Reply.Seq = 2 }, false},
		{func(s *api.Server) { s.Memos.L[0].Who = 7 }, false},
		{func(s *api.Server) { s.Memos.L[0].Seq = 3 }, false},
		{func(s *api.Server) { s.Memos.L[0].Reply.Rev = maxNumber }, true},
		{func(s *api.Server) { s.Memos.L[0].Reply.Rev = maxNumber + 1 }, false},
		{func(s *api.Server) { s.Memos.L[2].Reply.KVs = make([]api.KV, 30) }, true},
		{func(s *api.Server) { s.Memos.L[2].Reply.KVs = make([]api.KV, 31) }, false},
		{func(s *api.Server) { s.Memos.L[0].Reply = api.Reply{Who: 5, Seq: 1} }, true},
		{func(s *api.Server) { s.Memos.L[0] = api.Memo{Who: -1, Seq: 1, Reply: api.Reply{Who: -1, Seq: 1}} }, false},
		{func(s *api.Server) { s.Memos.L[0] = api.Memo{Who: 8, Seq: -1, Reply: api.Reply{Who: 8, Seq: -1}} }, false},
		{func(s *api.Server) { s.Memos.L = nil }, true},

		// Leases of keys: of what there is now alone.
		{func(s *api.Server) { s.Leases.L = s.Leases.L[1:] }, false},
		{func(s *api.Server) { s.Leases.L = s.Leases.L[:2] }, true},
		{func(s *api.Server) { s.Leases.L = s.Leases.L[:1] }, false},
		{func(s *api.Server) { s.Store, _, _ = mvcc.Apply(s.Store, []api.Mut{{Key: "d", Lease: 4}}) }, false},
		{func(s *api.Server) { s.Store, _, _ = mvcc.Apply(s.Store, []api.Mut{{Key: "d", Lease: 3}}) }, true},
		{func(s *api.Server) {
			s.Store, _, _ = mvcc.Apply(s.Store, []api.Mut{{Gone: true, Key: "a1"}, {Key: "c"}})
			s.Leases.L = s.Leases.L[1:]
		}, true},
		{func(s *api.Server) {
			s.Store, _, _ = mvcc.Apply(s.Store, []api.Mut{{Key: "a1", Lease: 2}, {Gone: true, Key: "c"}})
			s.Leases.L = s.Leases.L[1:]
		}, true},
		{func(s *api.Server) {
			s.Store, _ = mvcc.Shrink(s.Store, s.Store.Rev)
			s.Leases.L = s.Leases.L[1:]
		}, false},
	} {
		s := copied(full)
		c.change(&s)
		if got := May(s); got != c.want {
			t.Errorf("case %d: %v", i, got)
		}
	}
}

// P10.2
func TestRange(t *testing.T) {
	s := two(t)
	now := mvcc.Now(s.Store)
	first, _ := mvcc.At(s.Store, 1)
	for _, c := range []struct {
		k    string
		rev  int
		want []api.KV
	}{
		{"", 0, now}, {"a", 0, now[:2]}, {"a2", 0, now[1:2]}, {"b", 0, now[2:]}, {"c", 0, nil}, {"a22", 0, nil},
		{"", 1, first}, {"a2", 1, nil}, {"", 2, now[:2]}, {"b", 3, now[2:]},
	} {
		u := tells(t, s, api.Req{Kind: api.Range, Who: 3, Seq: 4, Key: c.k, Rev: c.rev}, api.Reply{Rev: 3, KVs: c.want})
		if !reflect.DeepEqual(u, s) {
			t.Errorf("of %v the server is %v", c, u)
		}
	}
	fails(t, s, api.Req{Kind: api.Range, Rev: 4}, api.ErrRev)
	fails(t, s, api.Req{Kind: api.Range, Rev: maxNumber}, api.ErrRev)
	cut := done(t, s, api.Req{Kind: api.Compact, Rev: 2})
	fails(t, cut, api.Req{Kind: api.Range, Rev: 1}, api.ErrCompact)
	tells(t, cut, api.Req{Kind: api.Range, Rev: 2}, api.Reply{Rev: 3, KVs: now[:2]})
	tells(t, New(), api.Req{Kind: api.Range}, api.Reply{})
	fails(t, New(), api.Req{Kind: api.Range, Rev: 1}, api.ErrRev)
}

// P10.2
func TestChange(t *testing.T) {
	s := two(t)
	absent := []api.Cmp{txn.Absent("c")}
	for i, c := range []struct {
		x    api.Txn
		want api.Reply
		keys string
	}{
		{txn.Put("c", "v", 2), api.Reply{Yes: true, Rev: 4}, "a1 a2 b c"},
		{txn.Put("b", "v", 2), api.Reply{Rev: 3}, "a1 a2 b"},
		{txn.Drop("b", 3), api.Reply{Yes: true, Rev: 4}, "a1 a2"},
		{api.Txn{}, api.Reply{Yes: true, Rev: 3}, "a1 a2 b"},
		{api.Txn{If: absent, Then: []api.Mut{{Key: "c", Lease: 1}, {Key: "d"}}}, api.Reply{Yes: true, Rev: 4}, "a1 a2 b c d"},
		{api.Txn{If: []api.Cmp{txn.Absent("b")}, Else: []api.Mut{{Key: "e", Lease: 1}}}, api.Reply{Rev: 4}, "a1 a2 b e"},
		// A lease of one that is Gone is nobody's.
		{api.Txn{Then: []api.Mut{{Gone: true, Key: "b", Lease: 3}}}, api.Reply{Yes: true, Rev: 4}, "a1 a2"},
		{api.Txn{Else: []api.Mut{{Gone: true, Key: "b", Lease: 3}}}, api.Reply{Yes: true, Rev: 3}, "a1 a2 b"},
	} {
		u := tells(t, s, api.Req{Kind: api.Change, Who: 7, Seq: 9, Txn: c.x}, c.want)
		if store, _, _, _ := txn.Do(s.Store, c.x); keys(u) != c.keys || !reflect.DeepEqual(u.Store, store) || !May(u) {
			t.Errorf("case %d: %v", i, u)
		}
		u.Store = s.Store
		if !reflect.DeepEqual(u, s) {
			t.Errorf("case %d: beside its store it is %v", i, u)
		}
	}
}

// P10.2
func TestChangeThatFails(t *testing.T) {
	s := two(t)
	late := Tick(s, 10)
	wrong := []api.Mut{{Key: "c", Lease: 3}}
	twice := []api.Mut{{Key: "c"}, {Key: "c"}}
	last := api.Server{Store: api.Store{Rev: maxRev, Low: maxRev}}
	for i, c := range []struct {
		s api.Server
		x api.Txn
		e api.Errno
	}{
		// A lease that is not there, in either list, whichever is done.
		{s, api.Txn{Then: wrong}, api.ErrLease},
		{s, api.Txn{Else: wrong}, api.ErrLease},
		{s, api.Txn{If: []api.Cmp{txn.Made("b", 9)}, Then: wrong}, api.ErrLease},
		{s, api.Txn{Then: []api.Mut{{Key: "c", Lease: 1}, {Gone: true, Key: "b"}, {Key: "d", Lease: maxNumber}}}, api.ErrLease},
		{late, txn.Put("c", "v", 1), api.ErrLease},
		{late, txn.Put("c", "v", 2), api.OK},
		// Ahead of what txn.Do tells.
		{s, api.Txn{Then: []api.Mut{{Key: "", Lease: 3}}}, api.ErrLease},
		{s, api.Txn{Then: twice, Else: wrong}, api.ErrLease},
		{last, api.Txn{Then: wrong}, api.ErrLease},

		{s, api.Txn{Then: twice}, api.ErrArg},
		{s, api.Txn{Then: []api.Mut{{Key: "c c"}}}, api.ErrArg},
		{s, txn.Put("", "v", 1), api.ErrArg},
		{last, txn.Put("c", "v", 0), api.ErrFull},
		{long(t, s, 60), txn.Put("c", "v", 0), api.ErrFull},
		{long(t, s, 60), txn.Put("b", "v", 0), api.OK},
		{long(t, s, 59), txn.Put("c", "v", 0), api.OK},
	} {
		u, p := Do(c.s, api.Req{Kind: api.Change, Who: 7, Seq: 9, Txn: c.x})
		if p.Code != c.e || c.e != api.OK && (!same(p, api.Reply{Code: c.e, Who: 7, Seq: 9}) || !reflect.DeepEqual(u, c.s)) {
			t.Errorf("case %d: %v", i, p)
		}
	}
}

// P10.2
func TestWatch(t *testing.T) {
	s := two(t)
	events := s.Store.Log
	for _, c := range []struct {
		k    string
		rev  int
		want []api.Event
	}{
		{"", 1, events}, {"", 2, events[1:]}, {"", 3, events[2:]}, {"", 4, nil},
		{"a", 1, events[:2]}, {"a2", 1, events[1:2]}, {"b", 1, events[2:]}, {"c", 1, nil}, {"a", 3, nil},
	} {
		u := tells(t, s, api.Req{Kind: api.Watch, Who: 3, Seq: 4, Key: c.k, Rev: c.rev}, api.Reply{Rev: 4, Events: c.want})
		if !reflect.DeepEqual(u, s) {
			t.Errorf("of %v the server is %v", c, u)
		}
	}
	fails(t, s, api.Req{Kind: api.Watch}, api.ErrRev)
	fails(t, s, api.Req{Kind: api.Watch, Rev: 5}, api.ErrRev)
	cut := done(t, s, api.Req{Kind: api.Compact, Rev: 2})
	fails(t, cut, api.Req{Kind: api.Watch, Rev: 2}, api.ErrCompact)
	tells(t, cut, api.Req{Kind: api.Watch, Rev: 3}, api.Reply{Rev: 4, Events: events[2:]})
	tells(t, New(), api.Req{Kind: api.Watch, Rev: 1}, api.Reply{Rev: 1})
	// At the last revision of all there is one more from which to go on.
	last := api.Server{Store: api.Store{Rev: maxRev, Low: maxRev}}
	tells(t, last, api.Req{Kind: api.Watch, Rev: maxNumber}, api.Reply{Rev: maxNumber})
}

// P10.2: at most 30 events, in whole revisions.
func TestWatchOfMany(t *testing.T) {
	s := New()
	for range 13 {
		s = done(t, s, lay(0, "a", "b", "c", "d"))
	}
	u, p := Do(s, api.Req{Kind: api.Watch, Rev: 1})
	if len(p.Events) != 28 || p.Rev != 8 || !reflect.DeepEqual(p.Events, s.Store.Log[:28]) || !reflect.DeepEqual(u, s) {
		t.Errorf("it is %d, from %d on", len(p.Events), p.Rev)
	}
	if _, p = Do(s, api.Req{Kind: api.Watch, Rev: p.Rev}); len(p.Events) != 24 || p.Rev != 14 {
		t.Errorf("it goes on by %d, from %d on", len(p.Events), p.Rev)
	}
	s = New()
	for range 15 {
		s = done(t, s, lay(0, "a", "b"))
	}
	if _, p := Do(s, api.Req{Kind: api.Watch, Rev: 1}); len(p.Events) != 30 || p.Rev != 16 {
		t.Errorf("of 30 it is %d, from %d on", len(p.Events), p.Rev)
	}
}

// P10.2
func TestGrant(t *testing.T) {
	s := Tick(two(t), 3)
	for _, ttl := range []int{1, 7, 1000} {
		u := tells(t, s, api.Req{Kind: api.Grant, Who: 3, Seq: 4, TTL: ttl}, api.Reply{Lease: 3, TTL: ttl})
		want := copied(s)
		want.Leases.Next = 3
		want.Leases.L = append(want.Leases.L, api.Lease{Id: 3, TTL: ttl, Until: 3 + ttl})
		if !reflect.DeepEqual(u, want) || !May(u) {
			t.Errorf("of %d the server is %v", ttl, u)
		}
	}
	fails(t, s, grant(0), api.ErrArg)
	fails(t, s, grant(1001), api.ErrArg)
	full := done(t, s, slices.Repeat([]api.Req{grant(50)}, 6)...)
	fails(t, full, grant(50), api.ErrFull)
	fails(t, full, grant(0), api.ErrArg)
	// Granted when the clock stands at its end, it is over behind that.
	tells(t, api.Server{Clock: maxNumber}, grant(1000), api.Reply{Lease: 1, TTL: 1000})
	fails(t, api.Server{Leases: api.Leases{Next: maxNumber}}, grant(5), api.ErrFull)
}

// P10.2
func TestKeep(t *testing.T) {
	s := Tick(two(t), 6)
	for _, c := range []struct{ id, ttl int }{{1, 10}, {2, 20}} {
		u := tells(t, s, api.Req{Kind: api.Keep, Who: 3, Seq: 4, Lease: c.id}, api.Reply{Lease: c.id, TTL: c.ttl})
		want := copied(s)
		want.Leases.L[c.id-1].Until = 6 + c.ttl
		if !reflect.DeepEqual(u, want) {
			t.Errorf("of %d the server is %v", c.id, u)
		}
	}
	for _, id := range []int{0, 3, maxNumber} {
		fails(t, s, api.Req{Kind: api.Keep, Lease: id}, api.ErrLease)
	}
	fails(t, Tick(s, 4), api.Req{Kind: api.Keep, Lease: 1}, api.ErrLease)
}

// P10.2
func TestRevoke(t *testing.T) {
	s := two(t)
	for _, c := range []struct {
		id   int
		keys string
	}{{1, "a2 b"}, {2, "a1 b"}} {
		u := tells(t, s, api.Req{Kind: api.Revoke, Who: 3, Seq: 4, Lease: c.id}, api.Reply{Lease: c.id, Rev: 4})
		if want, e := Sweep(s, c.id); e != api.OK || !reflect.DeepEqual(u, want) || keys(u) != c.keys {
			t.Errorf("of %d the server is %v", c.id, u)
		}
	}
	// Where it has no keys no revision is made.
	bare := done(t, s, grant(5))
	if u := tells(t, bare, api.Req{Kind: api.Revoke, Lease: 3}, api.Reply{Lease: 3, Rev: 3}); !reflect.DeepEqual(ids(u), []int{1, 2}) {
		t.Errorf("the server is %v", u)
	}
	for _, id := range []int{0, 3, maxNumber} {
		fails(t, s, api.Req{Kind: api.Revoke, Lease: id}, api.ErrLease)
	}
	fails(t, atLastRev(t), api.Req{Kind: api.Revoke, Lease: 1}, api.ErrFull)
}

// atLastRev is a server at the last revision, with a key of lease 1, and lease 2 without keys.
func atLastRev(t *testing.T) api.Server {
	t.Helper()
	s := api.Server{Store: api.Store{Rev: maxRev - 1, Low: maxRev - 1}}
	return done(t, s, grant(10), grant(10), put("a", 1))
}

// P10.2
func TestCompact(t *testing.T) {
	s := two(t)
	for rev := range 4 {
		u := tells(t, s, api.Req{Kind: api.Compact, Who: 3, Seq: 4, Rev: rev}, api.Reply{Rev: 3})
		want := s
		want.Store, _ = mvcc.Shrink(s.Store, rev)
		if !reflect.DeepEqual(u, want) || u.Store.Low != rev || !May(u) {
			t.Errorf("to %d the server is %v", rev, u)
		}
	}
	fails(t, s, api.Req{Kind: api.Compact, Rev: 4}, api.ErrRev)
	fails(t, done(t, s, api.Req{Kind: api.Compact, Rev: 2}), api.Req{Kind: api.Compact, Rev: 1}, api.ErrCompact)
}

// P10.2: a Write is none of the server's.
func TestWrite(t *testing.T) {
	s := two(t)
	fails(t, s, api.Req{Kind: api.Write, Who: 3, Seq: 4, Token: 1, Value: "v"}, api.ErrArg)
	fails(t, s, once(api.Req{Kind: api.Write, Token: 1, Value: "v"}, 3, 4), api.ErrArg)
}

// P10.2: what may not be asked is told so, with its Who and Seq, whatever they are.
func TestRequestsThatMayNotBe(t *testing.T) {
	s := done(t, two(t), once(put("c", 1), 5, 1))
	for _, n := range []int{math.MinInt, -1, maxNumber + 1, math.MaxInt} {
		for _, r := range []api.Req{
			{Kind: n}, {Kind: api.Range, Who: n}, {Kind: api.Range, Seq: n}, {Kind: api.Range, Rev: n}, {Kind: api.Range, Lease: n},
			{Kind: api.Keep, Lease: n}, {Kind: api.Keep, Lease: 1, TTL: n}, {Kind: api.Grant, TTL: n}, {Kind: api.Compact, Rev: n},
			{Kind: api.Watch, Rev: 1, Token: n}, put("c", n), once(put("d", 1), n, 1), once(put("d", 1), 5, n),
		} {
			fails(t, s, r, api.ErrArg)
		}
	}
	five := slices.Repeat([]api.Mut{{Key: "c"}}, 5)
	for _, r := range []api.Req{
		{}, {Kind: 9}, {Kind: api.Range, Key: strings.Repeat("k", 41)}, {Kind: api.Range, Value: strings.Repeat("v", 21)},
		{Kind: api.Change, Txn: api.Txn{Then: five}}, {Kind: api.Change, Txn: api.Txn{Else: five}}, {Kind: api.Range, Txn: api.Txn{Else: five}},
		{Kind: api.Change, Txn: api.Txn{If: []api.Cmp{{Key: "c", What: 5, How: 1}}}},
		// Ahead of what is kept.
		once(api.Req{Kind: 9}, 5, 1), once(lay(0, strings.Repeat("k", 41)), 5, 1), once(api.Req{}, 5, 0), once(api.Req{}, 5, 9),
	} {
		fails(t, s, r, api.ErrArg)
	}
}

// P10.2, P10.5: of each kind a request that is Once is told as it was, whatever came in between, and whatever is asked
// by that number now.
func TestOnce(t *testing.T) {
	s := two(t)
	for _, r := range []api.Req{
		{Kind: api.Range, Key: "a"}, {Kind: api.Watch, Rev: 1}, put("c", 1), put("b", 1), grant(7),
		{Kind: api.Keep, Lease: 1}, {Kind: api.Revoke, Lease: 1}, {Kind: api.Compact, Rev: 2},
	} {
		free, _ := Do(s, r)
		r = once(r, 5, 8)
		u, p := Do(s, r)
		if p.Code != api.OK || p.Who != 5 || p.Seq != 8 || len(u.Memos.L) != 1 || !reflect.DeepEqual(u.Memos.L[0], api.Memo{Who: 5, Seq: 8, Reply: p}) || !May(u) {
			t.Fatalf("of %v it is %v, and kept %v", r, p, u.Memos)
		}
		// But for what is kept it is as if it weren't Once.
		bare := u
		bare.Memos = free.Memos
		if !reflect.DeepEqual(bare, free) {
			t.Errorf("of %v the server is %v", r, u)
		}
		later := Tick(done(t, u, lay(0, "d"), grant(3)), 25)
		for _, again := range []api.Req{r, once(put("e", 0), 5, 8), once(put("", 0), 5, 8), once(api.Req{Kind: api.Write}, 5, 8), once(api.Req{Kind: api.Revoke, Lease: 2}, 5, 8)} {
			for _, s := range []api.Server{u, later} {
				if v, q := Do(s, again); !reflect.DeepEqual(q, p) || !reflect.DeepEqual(v, s) {
					t.Errorf("of %v then %v it is %v, and the server is %v", r, again, q, v)
				}
			}
		}
		// Of another one, or another number, it is another request.
		for _, c := range [][2]int{{5, 9}, {6, 8}, {8, 5}} {
			if v, q := Do(u, once(put("e", 0), c[0], c[1])); !q.Yes || len(v.Memos.L) != 2 || q.Who != c[0] || q.Seq != c[1] {
				t.Errorf("of %v it is %v", c, q)
			}
		}
	}
}

// P10.2: what is not Once is not kept, and not told as kept.
func TestNotOnce(t *testing.T) {
	s := done(t, two(t), once(put("c", 0), 5, 8))
	r := put("d", 0)
	r.Who, r.Seq = 5, 8
	u := tells(t, s, r, api.Reply{Yes: true, Rev: 5})
	if !reflect.DeepEqual(u.Memos, s.Memos) {
		t.Errorf("kept is %v", u.Memos)
	}
	u = tells(t, u, r, api.Reply{Rev: 5})
	// Nor is it old, or too much.
	for seq := range 9 {
		u = done(t, u, once(api.Req{Kind: api.Range}, 5, 10+seq))
	}
	tells(t, u, r, api.Reply{Rev: 5})
	for who := range 7 {
		u = done(t, u, once(api.Req{Kind: api.Range}, 50+who, 1))
	}
	r.Who = 99
	tells(t, u, r, api.Reply{Rev: 5})
	fails(t, u, once(r, 99, 8), api.ErrFull)
}

// P10.2: what failed was not done, and is not kept: asked again, it may be done.
func TestWhatFailedIsNotKept(t *testing.T) {
	s := two(t)
	r := once(put("c", 3), 5, 1)
	fails(t, s, r, api.ErrLease)
	s = done(t, s, grant(30))
	s = tells(t, s, r, api.Reply{Yes: true, Rev: 4})
	tells(t, s, r, api.Reply{Yes: true, Rev: 4})
}

// P10.2
func TestOldRequests(t *testing.T) {
	s := two(t)
	for seq := 1; seq <= 4; seq++ {
		s = done(t, s, once(lay(0, fmt.Sprint("k", seq)), 5, seq))
	}
	tells(t, s, once(put("x", 0), 5, 1), api.Reply{Yes: true, Rev: 4})
	s = done(t, s, once(lay(0, "k5"), 5, 5))
	// It is told ahead of the errors of its kind.
	fails(t, s, once(put("x", 0), 5, 1), api.ErrOld)
	fails(t, s, once(put("x", 9), 5, 1), api.ErrOld)
	fails(t, s, once(api.Req{Kind: api.Write}, 5, 0), api.ErrOld)
	for seq := 2; seq <= 5; seq++ {
		tells(t, s, once(put("x", 0), 5, seq), api.Reply{Yes: true, Rev: 3 + seq})
	}
	tells(t, s, once(put("x", 0), 6, 1), api.Reply{Yes: true, Rev: 9})
}

// P10.2: the ninth one who asks for something Once is refused, ahead of the errors of its kind.
func TestWhereAllAreThere(t *testing.T) {
	s := two(t)
	for who := range 8 {
		s = done(t, s, once(api.Req{Kind: api.Range}, who, 1))
	}
	fails(t, s, once(put("c", 0), 8, 1), api.ErrFull)
	fails(t, s, once(put("c", 9), 8, 1), api.ErrFull)
	fails(t, s, once(put("c", 9), 7, 2), api.ErrLease)
	tells(t, s, once(put("c", 0), 7, 2), api.Reply{Yes: true, Rev: 4})
}

// P10.3
func TestSweep(t *testing.T) {
	s := done(t, two(t), lay(1, "a0", "c"))
	s = done(t, s, once(put("d", 2), 5, 1))
	for _, c := range []struct {
		id   int
		keys string
		left []int
		gone []string
	}{
		{1, "a2 b d", []int{2}, []string{"a0", "a1", "c"}},
		{2, "a0 a1 b c", []int{1}, []string{"a2", "d"}},
	} {
		u, e := Sweep(s, c.id)
		if e != api.OK || keys(u) != c.keys || !slices.Equal(ids(u), c.left) || u.Leases.Next != 2 || !May(u) {
			t.Errorf("of %d it is %v, %d", c.id, u, e)
		}
		// All its keys are gone at one revision.
		n := len(s.Store.Log)
		if u.Store.Rev != 6 || u.Store.Low != 0 || !reflect.DeepEqual(u.Store.Log[:n], s.Store.Log) || len(u.Store.Log) != n+len(c.gone) {
			t.Fatalf("of %d the store is %v", c.id, u.Store)
		}
		for i, k := range c.gone {
			was, _ := hist.Find(mvcc.Now(s.Store), k)
			if got := u.Store.Log[n+i]; got != (api.Event{Rev: 6, Gone: true, KV: was}) {
				t.Errorf("of %d event %d is %v", c.id, i, got)
			}
		}
		if !reflect.DeepEqual(u.Memos, s.Memos) || u.Clock != s.Clock {
			t.Errorf("of %d all else is %v", c.id, u)
		}
	}
	for _, id := range []int{0, -1, 3, math.MinInt, math.MaxInt} {
		if u, e := Sweep(s, id); e != api.ErrLease || !reflect.DeepEqual(u, s) {
			t.Errorf("of %d it is %v, %d", id, u, e)
		}
	}
	// Without keys there is no revision; what was laid anew without the lease stays.
	s = done(t, s, lay(0, "a0", "a1", "c"))
	if u, e := Sweep(s, 1); e != api.OK || !reflect.DeepEqual(u.Store, s.Store) || !slices.Equal(ids(u), []int{2}) {
		t.Errorf("without keys it is %v, %d", u, e)
	}
}

// P10.3: it is shrunk only if there is no room for all of its events.
func TestSweepWithoutRoom(t *testing.T) {
	s := done(t, two(t), lay(1, "a0", "c"))
	for events, low := range map[int]int{56: 0, 57: 0, 58: -1, 59: -1, 60: -1} {
		full := long(t, s, events)
		if low < 0 {
			low = full.Store.Rev
		}
		u, e := Sweep(full, 1)
		if e != api.OK || u.Store.Low != low || u.Store.Rev != full.Store.Rev+1 || keys(u) != "a2 b z" || !slices.Equal(ids(u), []int{2}) || !May(u) {
			t.Errorf("with %d events it is %v, %d", events, u, e)
		}
		if want := events + 3; low == 0 && len(u.Store.Log) != want || low > 0 && len(u.Store.Log) != 3 {
			t.Errorf("with %d events there are %d behind it", events, len(u.Store.Log))
		}
		if low > 0 && !reflect.DeepEqual(u.Store.Base, mvcc.Now(full.Store)) {
			t.Errorf("with %d events its base is %v", events, u.Store.Base)
		}
		// A request is done so, too.
		if v, p := Do(full, api.Req{Kind: api.Revoke, Lease: 1}); p.Code != api.OK || p.Rev != u.Store.Rev || !reflect.DeepEqual(v, u) {
			t.Errorf("with %d events a Revoke is %v", events, p)
		}
	}
	// One that has no keys needs no room.
	full := long(t, done(t, s, grant(5)), 60)
	if u, e := Sweep(full, 3); e != api.OK || !reflect.DeepEqual(u.Store, full.Store) || !slices.Equal(ids(u), []int{1, 2}) {
		t.Errorf("without keys it is %v, %d", u, e)
	}
	fails(t, full, put("x", 0), api.ErrFull)
	// But a Log that has too many already, as it may not, is cut.
	wrong := api.Server{Store: api.Store{Rev: 9, Log: make([]api.Event, 61)}, Leases: full.Leases}
	if u, e := Sweep(wrong, 3); e != api.OK || u.Store.Low != 9 || len(u.Store.Log) != 0 || !slices.Equal(ids(u), []int{1, 2}) {
		t.Errorf("with too many events it is %v, %d", u, e)
	}
}

// P10.3: the errors of Apply leave s as it was.
func TestSweepThatFails(t *testing.T) {
	s := atLastRev(t)
	if u, e := Sweep(s, 1); e != api.ErrFull || !reflect.DeepEqual(u, s) {
		t.Errorf("it is %v, %d", u, e)
	}
	if u, e := Sweep(s, 2); e != api.OK || !slices.Equal(ids(u), []int{1}) {
		t.Errorf("without keys it is %v, %d", u, e)
	}
	// Also where it would have been shrunk ahead.
	for len(s.Store.Log) < 60 {
		s.Store.Log = append(s.Store.Log, api.Event{Rev: maxRev, KV: api.KV{Key: "z"}})
	}
	if u, e := Sweep(s, 1); e != api.ErrFull || !reflect.DeepEqual(u, s) {
		t.Errorf("with a full log it is %v, %d", u, e)
	}
	// Of stores that may not be: no lease is told ahead of all; two things of one key, or a key that is none, are wrong;
	// where a store can't be shrunk there is no room.
	x := api.KV{Key: "a", Lease: 1}
	leases := api.Leases{Next: 1, L: []api.Lease{{Id: 1, TTL: 5, Until: 5}}}
	for i, c := range []struct {
		s  api.Store
		id int
		e  api.Errno
	}{
		{api.Store{Base: []api.KV{x, x}}, 2, api.ErrLease},
		{api.Store{Base: []api.KV{x, x}}, 1, api.ErrArg},
		{api.Store{Base: []api.KV{{Lease: 1}}}, 1, api.ErrArg},
		{api.Store{Base: []api.KV{x, x}, Log: make([]api.Event, 60)}, 1, api.ErrArg},
		{api.Store{Base: []api.KV{x}, Rev: 1, Low: 2, Log: make([]api.Event, 60)}, 1, api.ErrFull},
	} {
		s := api.Server{Store: c.s, Leases: leases}
		if u, e := Sweep(s, c.id); e != c.e || !reflect.DeepEqual(u, s) {
			t.Errorf("case %d: %v, %d", i, u, e)
		}
	}
}

// P10.4
func TestTick(t *testing.T) {
	s := done(t, two(t), once(put("c", 2), 5, 1))
	for by, want := range map[int]string{0: "a1 a2 b c", 1: "a1 a2 b c", 9: "a1 a2 b c", 10: "a2 b c", 19: "a2 b c", 20: "b", 999: "b", 1000: "b"} {
		u := Tick(s, by)
		if u.Clock != by || keys(u) != want || !May(u) || !reflect.DeepEqual(u.Memos, s.Memos) {
			t.Errorf("by %d it is %v", by, u)
		}
	}
	for _, by := range []int{-1, 1001, math.MinInt, math.MaxInt} {
		if u := Tick(s, by); !reflect.DeepEqual(u, s) {
			t.Errorf("by %d it is %v", by, u)
		}
	}
	// By nothing, nothing but what is due already.
	if u := Tick(s, 0); !reflect.DeepEqual(u, s) {
		t.Errorf("by 0 it is %v", u)
	}
	late := s
	late.Clock = 15
	if u := Tick(late, 0); u.Clock != 15 || keys(u) != "a2 b c" || !slices.Equal(ids(u), []int{2}) {
		t.Errorf("by 0, late, it is %v", u)
	}
}

// P10.4: the end of the clock.
func TestTickAtTheEnd(t *testing.T) {
	s := two(t)
	for _, c := range []struct{ clock, by, want int }{
		{maxNumber - 10, 10, maxNumber}, {maxNumber - 10, 11, maxNumber - 10}, {maxNumber - 10, 9, maxNumber - 1},
		{maxNumber - 1000, 1000, maxNumber}, {maxNumber - 999, 1000, maxNumber - 999}, {maxNumber, 0, maxNumber}, {maxNumber, 1, maxNumber},
		{maxNumber + 1, 0, maxNumber + 1}, {math.MaxInt, 0, math.MaxInt}, {math.MaxInt, 1000, math.MaxInt},
		{math.MinInt, 1000, math.MinInt + 1000}, {-5, 5, 0},
	} {
		s.Clock = c.clock
		u := Tick(s, c.by)
		if u.Clock != c.want || c.clock == c.want && c.by > 0 && !reflect.DeepEqual(u, s) {
			t.Errorf("of %v it is %v", c, u)
		}
	}
	// One that was granted there is never over.
	last := api.Server{Clock: maxNumber}
	last = done(t, last, grant(1), put("a", 1))
	if u := Tick(last, 0); !reflect.DeepEqual(u, last) {
		t.Errorf("it is %v", u)
	}
}

// P10.4: those that are due are swept in order, each at a revision of its own.
func TestTickSweepsInOrder(t *testing.T) {
	s := done(t, New(), grant(30), grant(10), grant(20), grant(40), put("d", 4), put("a", 3), put("b", 2), put("c", 1))
	u := Tick(s, 30)
	var gone []string
	for _, e := range u.Store.Log[4:] {
		gone = append(gone, fmt.Sprint(e.Rev, e.KV.Key, e.Gone))
	}
	if want := []string{"5ctrue", "6btrue", "7atrue"}; !slices.Equal(gone, want) || !slices.Equal(ids(u), []int{4}) || keys(u) != "d" {
		t.Errorf("it is %v, and left are %v", gone, ids(u))
	}
	// Each makes room for itself.
	full := long(t, s, 59)
	v := Tick(full, 30)
	if v.Store.Rev != full.Store.Rev+3 || v.Store.Low != full.Store.Rev+1 || keys(v) != "d z" || !May(v) {
		t.Errorf("without room it is %v", v.Store)
	}
}

// P10.4: what can't be swept stays; others are swept all the same.
func TestTickThatFails(t *testing.T) {
	s := atLastRev(t)
	u := Tick(s, 10)
	if u.Clock != 10 || !slices.Equal(ids(u), []int{1}) || keys(u) != "a" || !reflect.DeepEqual(u.Store, s.Store) || !May(u) {
		t.Errorf("it is %v", u)
	}
	if v := Tick(u, 1); v.Clock != 11 || !slices.Equal(ids(v), []int{1}) || keys(v) != "a" {
		t.Errorf("then it is %v", v)
	}
}

// P10.5, and the chapter's example.
func TestKeysOfALeaseGoWithIt(t *testing.T) {
	s := done(t, New(), grant(10), put("a", 1))
	if u := Tick(s, 9); keys(u) != "a" || !slices.Equal(ids(u), []int{1}) {
		t.Errorf("ahead of it it is %v", u)
	}
	u := Tick(s, 10)
	if keys(u) != "" || len(u.Leases.L) != 0 || u.Store.Rev != 2 || u.Clock != 10 {
		t.Errorf("it is %v", u)
	}
	fails(t, u, api.Req{Kind: api.Keep, Lease: 1}, api.ErrLease)
	// Who keeps it in time keeps the key.
	kept := Tick(done(t, Tick(s, 9), api.Req{Kind: api.Keep, Lease: 1}), 9)
	if keys(kept) != "a" || keys(Tick(kept, 1)) != "" {
		t.Errorf("kept it is %v", kept)
	}
}

// P10.5
func TestOfServersThatMayBeComeSuch(t *testing.T) {
	random := rand.New(rand.NewSource(10))
	codes := map[api.Errno]int{}
	for range 40 {
		s := New()
		type asked struct{ who, seq int }
		told := map[asked]api.Reply{}
		for range 300 {
			if random.Intn(6) == 0 {
				s = Tick(s, random.Intn(8))
			}
			r := randomReq(random, s)
			ahead := copied(s)
			u, p := Do(s, r)
			codes[p.Code]++
			switch _, may := wire.Tell(p); {
			case !reflect.DeepEqual(s, ahead):
				t.Fatalf("%v changes what was handed in", r)
			case p.Who != r.Who || p.Seq != r.Seq || !may:
				t.Fatalf("of %v the reply is %v", r, p)
			case p.Code != api.OK && (!reflect.DeepEqual(u, s) || !same(p, api.Reply{Code: p.Code, Who: p.Who, Seq: p.Seq})):
				t.Fatalf("of %v the reply is %v, and the server %v", r, p, u)
			case !May(u):
				t.Fatalf("behind %v it may not be: %v", r, u)
			}
			if r.Once {
				was, is := told[asked{r.Who, r.Seq}]
				// It is told as it was, or as old, and nothing is done.
				if is && (p.Code != api.ErrOld && !reflect.DeepEqual(p, was) || !reflect.DeepEqual(u, s)) {
					t.Fatalf("of %v, that was told %v, the reply is %v", r, was, p)
				}
				if !is && p.Code == api.OK {
					told[asked{r.Who, r.Seq}] = p
				}
			}
			s = u
		}
	}
	for _, e := range []api.Errno{api.OK, api.ErrArg, api.ErrFull, api.ErrLease, api.ErrOld, api.ErrRev, api.ErrCompact} {
		if codes[e] == 0 {
			t.Errorf("%d was never told", e)
		}
	}
}

// randomReq is one of any kind, half of them Once, that is about what s has.
func randomReq(random *rand.Rand, s api.Server) api.Req {
	id := random.Intn(s.Leases.Next + 2)
	rev := random.Intn(s.Store.Rev + 2)
	k := fmt.Sprint("k", random.Intn(12))
	r := api.Req{Who: random.Intn(9), Seq: random.Intn(20), Once: random.Intn(2) == 0, Kind: 1 + random.Intn(8)}
	switch r.Kind {
	case api.Range, api.Watch:
		r.Key, r.Rev = k[:1+random.Intn(2)], rev
	case api.Change:
		r.Txn = api.Txn{Then: []api.Mut{{Key: k, Lease: id}}, Else: []api.Mut{{Gone: random.Intn(2) == 0, Key: k, Lease: id * random.Intn(2)}}}
		r.Txn.If = []api.Cmp{txn.Made(k, rev*random.Intn(2))}
	case api.Grant:
		r.TTL = 1 + random.Intn(30)
	case api.Keep:
		r.Lease = id
	case api.Revoke:
		r.Lease = id * random.Intn(2)
	case api.Compact:
		r.Rev = rev
	}
	return r
}

// R1: servers that may not be are no reason to panic.
func TestNothingPanics(t *testing.T) {
	numbers := []int{math.MinInt, -1, 0, 1, 7, maxNumber, math.MaxInt}
	x := api.KV{Key: "a", Create: math.MinInt, Mod: math.MaxInt, Version: -1, Lease: 1}
	for _, s := range []api.Server{
		{},
		{Store: api.Store{Rev: math.MinInt, Low: math.MaxInt}, Clock: math.MinInt},
		{
			Store:  api.Store{Rev: math.MaxInt, Low: math.MinInt, Base: []api.KV{x, x, {Lease: -1}}, Log: make([]api.Event, 99)},
			Leases: api.Leases{Next: math.MaxInt, L: []api.Lease{{Id: 1, TTL: math.MaxInt, Until: math.MinInt}, {Id: 1}, {}, {Id: -1, Until: math.MaxInt}}},
			Memos:  api.Memos{L: make([]api.Memo, 9), Old: make([]api.Floor, 9)},
			Clock:  math.MaxInt,
		},
		{Leases: api.Leases{Next: -1, L: make([]api.Lease, 99)}, Clock: -1},
	} {
		May(s)
		for _, n := range numbers {
			Sweep(s, n)
			Tick(s, n)
			for kind := range 10 {
				for _, is := range []bool{false, true} {
					Do(s, api.Req{Kind: kind, Who: n, Seq: 1, Once: is, Rev: 1, TTL: 1, Lease: 1, Txn: txn.Put("a", "", 1)})
					Do(s, api.Req{Kind: kind, Once: is, Rev: n, TTL: n, Lease: n, Txn: txn.Put("b", "", n)})
				}
			}
		}
	}
}

// R5: what is told and what is kept of it are in different hands, and nothing that was handed in is changed.
func TestNothingIsShared(t *testing.T) {
	s := done(t, two(t), once(api.Req{Kind: api.Range}, 5, 1), once(api.Req{Kind: api.Watch, Rev: 1}, 5, 2))
	before := copied(s)
	for _, r := range []api.Req{
		once(api.Req{Kind: api.Range}, 5, 3), once(api.Req{Kind: api.Watch, Rev: 1}, 5, 3),
		once(api.Req{Kind: api.Range}, 5, 1), once(api.Req{Kind: api.Watch, Rev: 1}, 5, 2),
	} {
		u, p := Do(s, r)
		want := copied(u)
		if p.Code != api.OK || len(p.KVs)+len(p.Events) == 0 {
			t.Fatalf("of %v it is %v", r, p)
		}
		clear(p.KVs)
		clear(p.Events)
		if !reflect.DeepEqual(u, want) || !reflect.DeepEqual(s, before) {
			t.Errorf("of %v the reply is shared with the server", r)
		}
	}
	Tick(s, 30)
	Sweep(s, 1)
	for _, r := range []api.Req{put("c", 1), grant(5), {Kind: api.Keep, Lease: 1}, {Kind: api.Revoke, Lease: 1}, {Kind: api.Compact, Rev: 2}} {
		Do(Tick(s, 3), once(r, 6, 1))
	}
	if !reflect.DeepEqual(s, before) {
		t.Errorf("what was handed in is now %v", s)
	}
}
