package lock

import (
	"fmt"
	"math"
	"math/rand"
	"reflect"
	"slices"
	"strings"
	"testing"

	"baton/api"
	"baton/hist"
	"baton/key"
	"baton/mvcc"
	"baton/server"
	"baton/ticket"
	"baton/txn"
	"baton/wire"
)

const maxNumber = 1<<40 - 1

// long is a value of n bytes.
func long(n int) string {
	return strings.Repeat("v", n)
}

// P16.1
func TestStart(t *testing.T) {
	for _, c := range []struct {
		kind  int
		name  string
		n     int
		value string
		want  api.Machine
	}{
		{1, "x", 0, "", api.Machine{Kind: 1, Name: "x", Phase: 1}},
		{2, "x", 0, "", api.Machine{Kind: 2, Name: "x", Value: "r", Phase: 1}},
		{3, "x", 0, "", api.Machine{Kind: 3, Name: "x", Value: "w", Phase: 1}},
		{4, "x", 1, "", api.Machine{Kind: 4, Name: "x", N: 1, Phase: 1}},
		{5, "x", 0, "", api.Machine{Kind: 5, Name: "x", Phase: 1}},
		// What a kind has no use for is neither asked nor kept.
		{1, "x", 5, "no", api.Machine{Kind: 1, Name: "x", Phase: 1}}, {1, "x", -5, long(21), api.Machine{Kind: 1, Name: "x", Phase: 1}},
		{2, "x", 101, "w", api.Machine{Kind: 2, Name: "x", Value: "r", Phase: 1}}, {2, "x", math.MinInt, long(99), api.Machine{Kind: 2, Name: "x", Value: "r", Phase: 1}},
		{3, "x", math.MaxInt, "r", api.Machine{Kind: 3, Name: "x", Value: "w", Phase: 1}}, {3, "x", 0, long(21), api.Machine{Kind: 3, Name: "x", Value: "w", Phase: 1}},
		{4, "x", 2, "no", api.Machine{Kind: 4, Name: "x", N: 2, Phase: 1}}, {4, "x", 100, long(21), api.Machine{Kind: 4, Name: "x", N: 100, Phase: 1}},
		{5, "x", 7, "yes", api.Machine{Kind: 5, Name: "x", Value: "yes", Phase: 1}}, {5, "x", 101, long(20), api.Machine{Kind: 5, Name: "x", Value: long(20), Phase: 1}},
		{5, "x", -1, "\x00\xff \n", api.Machine{Kind: 5, Name: "x", Value: "\x00\xff \n", Phase: 1}},
		{1, "abcdefghij09", 0, "", api.Machine{Kind: 1, Name: "abcdefghij09", Phase: 1}},
	} {
		if m, is := Start(c.kind, c.name, c.n, c.value); m != c.want || !is {
			t.Errorf("of %v it is %v, %v", c, m, is)
		}
	}
}

// P16.1
func TestStartOfWhatIsWrong(t *testing.T) {
	wrong := func(kind int, name string, n int, value string) {
		t.Helper()
		if m, is := Start(kind, name, n, value); m != (api.Machine{}) || is {
			t.Errorf("of %d, %q, %d and %q it is %v, %v", kind, name, n, value, m, is)
		}
	}
	for _, kind := range []int{0, -1, api.Party, api.Enqueue, api.Dequeue, 9, 257, math.MinInt, math.MaxInt} {
		wrong(kind, "x", 1, "")
	}
	for _, name := range []string{"", "X", "x/", "x y", "é", "abcdefghijklm", "\x00"} {
		for kind := api.Mutex; kind <= api.Leader; kind++ {
			wrong(kind, name, 1, "")
		}
	}
	for _, n := range []int{0, -1, 101, 1000, math.MinInt, math.MaxInt} {
		wrong(api.Permit, "x", n, "")
	}
	wrong(api.Leader, "x", 0, long(21))
	wrong(api.Leader, "x", 0, long(1000))
	// Bytes are counted, not letters.
	wrong(api.Leader, "x", 0, strings.Repeat("é", 11))
}

// P16.1
func TestJoin(t *testing.T) {
	for i, c := range []struct {
		m     api.Machine
		lease int
		key   string
	}{
		{api.Machine{Kind: 1, Name: "a", Phase: 1}, 255, "m/a/00000000ff"}, {api.Machine{Kind: 2, Name: "a", Value: "r", Phase: 1}, 1, "l/a/0000000001"},
		{api.Machine{Kind: 3, Name: "zz9", Value: "w", Phase: 1}, 16, "l/zz9/0000000010"}, {api.Machine{Kind: 4, Name: "a", N: 3, Phase: 1}, 1 << 39, "s/a/8000000000"},
		{api.Machine{Kind: 5, Name: "a", Value: "v", Phase: 1}, maxNumber, "e/a/ffffffffff"},
		// It is a party's, too; and of whatever there is a ticket.
		{api.Machine{Kind: 6, Name: "a", N: 3, Phase: 1}, 5, "p/a/0000000005"}, {api.Machine{Kind: 7, Name: "a", Phase: 1}, 5, "q/a/0000000005"}, {api.Machine{Kind: 8, Name: "a", Phase: 1}, 5, "q/a/0000000005"},
		// All else stays as it was.
		{api.Machine{Kind: 1, Name: "a", N: -1, Value: long(30), Key: "old", Phase: 1, Token: 7, Rev: 8, Err: 9}, 5, "m/a/0000000005"},
	} {
		want := c.m
		want.Key, want.Lease = c.key, c.lease
		if got := Join(c.m, c.lease); got != want {
			t.Errorf("case %d: %v", i, got)
		}
	}
}

// P16.1
func TestJoinOfWhatIsWrong(t *testing.T) {
	m := api.Machine{Kind: 1, Name: "a", Value: "v", Key: "k", Phase: 1, Token: 4, Rev: 6, Err: 3}
	same := func(m api.Machine, lease int) {
		t.Helper()
		if got := Join(m, lease); got != m {
			t.Errorf("of %v and %d it is %v", m, lease, got)
		}
	}
	for _, lease := range []int{0, -1, math.MinInt, maxNumber + 1, math.MaxInt} {
		same(m, lease)
	}
	for _, lease := range []int{1, -1, 5, math.MinInt, math.MaxInt} {
		joined := m
		joined.Lease = lease
		same(joined, 5)
	}
	for _, phase := range []int{0, 2, 3, 4, 5, 6, 7, 8, 9, 10, 11, -1, math.MinInt, math.MaxInt} {
		late := m
		late.Phase = phase
		same(late, 5)
	}
	for _, kind := range []int{0, -1, 9, math.MinInt, math.MaxInt} {
		other := m
		other.Kind = kind
		same(other, 5)
	}
	for _, name := range []string{"", "A", "a/", "abcdefghijklm"} {
		other := m
		other.Name = name
		same(other, 5)
	}
	same(api.Machine{}, 5)
}

// phases are all that there are, and some that there are not.
var phases = []int{0, 1, 2, 3, 4, 5, 6, 7, 8, 9, 10, 11, 12, -1, 256, 257, math.MinInt, math.MaxInt}

// in is a machine of that kind and phase, that has something of all that it may have.
func in(kind, phase int) api.Machine {
	k, _ := key.Ticket(kind, "x", 5)
	return api.Machine{Kind: kind, Name: "x", N: 2, Value: "v", Key: k, Lease: 5, Phase: phase, Token: 4, Rev: 6, Err: 13}
}

// P16.2
func TestAsk(t *testing.T) {
	for kind, prefix := range map[int]string{1: "m/x/", 2: "l/x/", 3: "l/x/", 4: "s/x/", 5: "e/x/"} {
		k := prefix + "0000000005"
		wants := map[int]api.Req{
			1: {Kind: 2, Once: true, Txn: api.Txn{If: []api.Cmp{{Key: k, What: 1, How: 1}}, Then: []api.Mut{{Key: k, Value: "v", Lease: 5}}}},
			2: {Kind: 1, Key: prefix},
			3: {Kind: 3, Key: prefix, Rev: 6},
			5: {Kind: 2, Once: true, Txn: api.Txn{Then: []api.Mut{{Gone: true, Key: k}}}},
			9: {Kind: 2, Once: true, Txn: api.Txn{If: []api.Cmp{{Key: k, What: 1, How: 1, N: 4}}, Then: []api.Mut{{Key: k, Value: "v", Lease: 5}}}},
		}
		for _, phase := range phases {
			want, wanted := wants[phase]
			r, is := Ask(in(kind, phase))
			if !reflect.DeepEqual(r, want) || is != wanted {
				t.Errorf("of kind %d and phase %d it is %v, %v", kind, phase, r, is)
			}
			if is && !wire.MayAsk(r) {
				t.Errorf("of kind %d and phase %d %v may not be asked", kind, phase, r)
			}
		}
	}
}

// P16.2: the key is m's own, whatever it is, and all else is asked as it stands.
func TestAskAsItStands(t *testing.T) {
	m := api.Machine{Kind: 5, Name: "x", Value: long(30), Key: "k k", Lease: -1, Token: -4, Rev: math.MinInt}
	for phase, want := range map[int]api.Req{
		1: {Kind: 2, Once: true, Txn: txn.Put("k k", long(30), -1)},
		3: {Kind: 3, Key: "e/x/", Rev: math.MinInt},
		5: {Kind: 2, Once: true, Txn: api.Txn{Then: []api.Mut{{Gone: true, Key: "k k"}}}},
		9: {Kind: 2, Once: true, Txn: api.Txn{If: []api.Cmp{txn.Made("k k", -4)}, Then: []api.Mut{{Key: "k k", Value: long(30), Lease: -1}}}},
	} {
		m.Phase = phase
		if r, is := Ask(m); !reflect.DeepEqual(r, want) || !is {
			t.Errorf("of phase %d it is %v, %v", phase, r, is)
		}
	}
}

// P16.2
func TestAskOfWhatIsWrong(t *testing.T) {
	none := func(m api.Machine) {
		t.Helper()
		if r, is := Ask(m); !reflect.DeepEqual(r, api.Req{}) || is {
			t.Errorf("of %v it is %v, %v", m, r, is)
		}
	}
	// Only Enter needs a lease.
	for _, phase := range phases {
		m := in(api.Mutex, phase)
		m.Lease = 0
		if _, is := Ask(m); is != slices.Contains([]int{2, 3, 5, 9}, phase) {
			t.Errorf("without a lease it is %v of phase %d", is, phase)
		}
		for _, kind := range []int{0, -1, 9, 257, math.MinInt, math.MaxInt} {
			m := in(api.Mutex, phase)
			m.Kind = kind
			none(m)
		}
		for _, name := range []string{"", "X", "x/", "abcdefghijklm"} {
			m := in(api.Mutex, phase)
			m.Name = name
			none(m)
		}
	}
	m := in(api.Mutex, api.Enter)
	m.Lease = 0
	none(m)
	none(api.Machine{})
	none(api.Machine{Phase: api.Look})
}

// goes is a machine that is told something, and how it goes on: by what is unlike.
type goes struct {
	m     api.Machine
	p     api.Reply
	phase int
	token int
	rev   int
	err   api.Errno
}

// hold tells where a machine does not go on as c says, all else staying as it was.
func (c goes) hold(t *testing.T) {
	t.Helper()
	want := c.m
	want.Phase, want.Token, want.Rev, want.Err = c.phase, c.token, c.rev, c.err
	if got := Told(c.m, c.p); got != want {
		t.Errorf("%v, told %v, is %v, not %v", c.m, c.p, got, want)
	}
}

// gone is an event of x, that was taken away.
func gone(x api.KV) api.Event {
	return api.Event{Rev: 8, Gone: true, KV: x}
}

// laid is an event of x, that was laid.
func laid(x api.KV) api.Event {
	return api.Event{Rev: 8, KV: x}
}

// P16.3: of Enter, Leave and Say.
func TestToldOfAChange(t *testing.T) {
	for kind := api.Mutex; kind <= api.Leader; kind++ {
		bare := in(kind, api.Enter)
		bare.Lease = 0
		for _, c := range []goes{
			{in(kind, api.Enter), api.Reply{Yes: true}, api.Look, 4, 6, 13},
			{in(kind, api.Enter), api.Reply{Yes: true, Rev: 99}, api.Look, 4, 6, 13},
			{in(kind, api.Enter), api.Reply{}, api.Failed, 0, 6, api.ErrBusy},
			{bare, api.Reply{Yes: true}, api.Enter, 4, 6, 13},
			{bare, api.Reply{}, api.Enter, 4, 6, 13},
			{in(kind, api.Leave), api.Reply{Yes: true}, api.Over, 0, 6, 13},
			{in(kind, api.Leave), api.Reply{Rev: 99}, api.Over, 0, 6, 13},
			{in(kind, api.Say), api.Reply{Yes: true}, api.Held, 4, 6, 13},
			{in(kind, api.Say), api.Reply{Rev: 99}, api.Failed, 0, 6, api.ErrLost},
		} {
			c.hold(t)
		}
	}
}

// P16.3: of Look.
func TestToldOfALook(t *testing.T) {
	own := func(kind, create int) api.KV {
		return api.KV{Key: in(kind, 0).Key, Value: ticket.Sign(kind), Create: create, Mod: 90, Version: 2, Lease: 5}
	}
	other := func(k, value string, create int) api.KV {
		return api.KV{Key: k, Value: value, Create: create, Mod: 80, Version: 3, Lease: 7}
	}
	a, b, w := other("a", "r", 2), other("b", "", 3), other("z", "w", 1)
	for _, c := range []struct {
		kind  int
		kvs   []api.KV
		phase int
	}{
		{api.Mutex, []api.KV{own(1, 7)}, api.Held}, {api.Mutex, []api.KV{a, own(1, 7)}, api.Wait}, {api.Mutex, []api.KV{own(1, 1), a}, api.Held}, {api.Mutex, []api.KV{a, own(1, 1)}, api.Held},
		{api.Writer, []api.KV{own(3, 7)}, api.Held}, {api.Writer, []api.KV{a, own(3, 7)}, api.Wait}, {api.Writer, []api.KV{own(3, 1), a}, api.Held},
		{api.Leader, []api.KV{own(5, 7)}, api.Held}, {api.Leader, []api.KV{b, own(5, 7)}, api.Wait}, {api.Leader, []api.KV{own(5, 1), b}, api.Held},
		{api.Reader, []api.KV{own(2, 7)}, api.Held}, {api.Reader, []api.KV{a, b, own(2, 7)}, api.Held}, {api.Reader, []api.KV{a, own(2, 7), w}, api.Wait}, {api.Reader, []api.KV{a, own(2, 1), other("z", "w", 9)}, api.Held},
		// N of m is 2.
		{api.Permit, []api.KV{own(4, 7)}, api.Held}, {api.Permit, []api.KV{a, own(4, 7)}, api.Held}, {api.Permit, []api.KV{a, b, own(4, 7)}, api.Wait}, {api.Permit, []api.KV{a, b, own(4, 1)}, api.Held},
	} {
		m, rev := in(c.kind, api.Look), 6
		if c.phase == api.Wait {
			rev = 100
		}
		x, _ := hist.Find(c.kvs, m.Key)
		goes{m, api.Reply{Rev: 99, KVs: c.kvs}, c.phase, x.Create, rev, 13}.hold(t)
	}
	for kind := api.Mutex; kind <= api.Leader; kind++ {
		goes{in(kind, api.Look), api.Reply{Rev: 99}, api.Failed, 0, 6, api.ErrLost}.hold(t)
		goes{in(kind, api.Look), api.Reply{Rev: 99, Yes: true, KVs: []api.KV{a, b, w}}, api.Failed, 0, 6, api.ErrLost}.hold(t)
	}
}

// P16.3: of Wait.
func TestToldOfAWait(t *testing.T) {
	for kind := api.Mutex; kind <= api.Leader; kind++ {
		m := in(kind, api.Wait)
		own, a, b := api.KV{Key: m.Key, Create: 4}, api.KV{Key: "a", Create: 2}, api.KV{Key: m.Key + "0", Create: 9}
		for _, c := range []struct {
			events []api.Event
			phase  int
			rev    int
		}{
			{nil, api.Wait, 99}, {[]api.Event{}, api.Wait, 99},
			// What is laid, and be it its own, is nothing to it.
			{[]api.Event{laid(a)}, api.Wait, 99}, {[]api.Event{laid(own)}, api.Wait, 99}, {[]api.Event{laid(a), laid(own), laid(b)}, api.Wait, 99},
			{[]api.Event{gone(a)}, api.Look, 6}, {[]api.Event{gone(b)}, api.Look, 6}, {[]api.Event{laid(own), gone(a), laid(b)}, api.Look, 6}, {[]api.Event{gone(a), gone(b), laid(a)}, api.Look, 6},
			// Its own comes first, wherever it stands, and whatever comes behind it.
			{[]api.Event{gone(own)}, api.Failed, 6}, {[]api.Event{gone(a), gone(own)}, api.Failed, 6}, {[]api.Event{gone(own), gone(a)}, api.Failed, 6}, {[]api.Event{laid(a), gone(own), laid(own)}, api.Failed, 6},
		} {
			token, e := 4, m.Err
			if c.phase == api.Failed {
				token, e = 0, api.ErrLost
			}
			goes{m, api.Reply{Rev: 99, Events: c.events}, c.phase, token, c.rev, e}.hold(t)
		}
	}
	// What it waits from is what it is told, also where that is less.
	goes{in(1, api.Wait), api.Reply{Rev: 2}, api.Wait, 4, 2, 13}.hold(t)
	goes{in(1, api.Wait), api.Reply{}, api.Wait, 4, 0, 13}.hold(t)
}

// codes are all that there are, but OK, and some that there are not.
func codes() []api.Errno {
	l := []api.Errno{-1, 15, 99, math.MinInt, math.MaxInt}
	for e := api.ErrArg; e <= api.ErrBreach; e++ {
		l = append(l, e)
	}
	return l
}

// P16.3: of replies whose Code is not OK, whatever else they say.
func TestToldOfACode(t *testing.T) {
	for kind := api.Mutex; kind <= api.Leader; kind++ {
		k := in(kind, 0).Key
		for _, e := range codes() {
			for _, p := range []api.Reply{
				{Code: e},
				{Code: e, Rev: 99, Yes: true, KVs: []api.KV{{Key: k, Create: 1}}},
				{Code: e, Rev: 99, Events: []api.Event{gone(api.KV{Key: k}), gone(api.KV{Key: "a"})}},
			} {
				as := e
				if e == api.ErrLease {
					as = api.ErrLost
				}
				for _, phase := range []int{api.Enter, api.Look, api.Wait, api.Leave, api.Say} {
					if phase == api.Wait && (e == api.ErrCompact || e == api.ErrRev) {
						goes{in(kind, phase), p, api.Look, 4, 6, 13}.hold(t)
					} else {
						goes{in(kind, phase), p, api.Failed, 0, 6, as}.hold(t)
					}
				}
				bare := in(kind, api.Enter)
				bare.Lease = 0
				goes{bare, p, api.Enter, 4, 6, 13}.hold(t)
			}
		}
	}
}

// P16.3: in other phases it stays as it is, whatever it is told.
func TestToldOfOtherPhases(t *testing.T) {
	for kind := api.Mutex; kind <= api.Leader; kind++ {
		k := in(kind, 0).Key
		for _, phase := range phases {
			if slices.Contains([]int{1, 2, 3, 5, 9}, phase) {
				continue
			}
			for _, e := range append(codes(), api.OK) {
				goes{in(kind, phase), api.Reply{Code: e}, phase, 4, 6, 13}.hold(t)
				goes{in(kind, phase), api.Reply{Code: e, Rev: 9, Yes: true, KVs: []api.KV{{Key: k, Create: 1}}, Events: []api.Event{gone(api.KV{Key: k})}}, phase, 4, 6, 13}.hold(t)
			}
		}
	}
}

// P16.3: it goes by its phase, whatever its Kind and Name are: of a kind that there is not nobody is ready.
func TestToldOfAKindThatIsNone(t *testing.T) {
	for _, kind := range []int{0, -1, 6, 7, 8, 9, math.MinInt, math.MaxInt} {
		m := in(api.Mutex, api.Look)
		m.Kind, m.Name = kind, "X"
		goes{m, api.Reply{Rev: 99, KVs: []api.KV{{Key: m.Key, Create: 7}}}, api.Wait, 7, 100, 13}.hold(t)
		m.Phase = api.Enter
		goes{m, api.Reply{Yes: true}, api.Look, 4, 6, 13}.hold(t)
	}
}

// P16.4
func TestLet(t *testing.T) {
	for kind := -1; kind < 10; kind++ {
		for _, phase := range phases {
			m := in(kind, phase)
			want, lets := m, phase == api.Look || phase == api.Wait || phase == api.Held
			if lets {
				want.Phase = api.Leave
			}
			if got, is := Let(m); got != want || is != lets {
				t.Errorf("of %v it is %v, %v", m, got, is)
			}
		}
	}
}

// P16.4
func TestSay(t *testing.T) {
	for kind := -1; kind < 10; kind++ {
		for _, phase := range phases {
			for _, value := range []string{"", "new", "v", long(20), long(21), long(99), strings.Repeat("é", 10), strings.Repeat("é", 11)} {
				m := in(kind, phase)
				want, says := m, kind == api.Leader && phase == api.Held && len(value) <= 20
				if says {
					want.Phase, want.Value = api.Say, value
				}
				if got, is := Say(m, value); got != want || is != says {
					t.Errorf("of %v and %q it is %v, %v", m, value, got, is)
				}
			}
		}
	}
}

// P16.4
func TestActiveAndLose(t *testing.T) {
	for kind := -1; kind < 10; kind++ {
		for _, phase := range phases {
			m := in(kind, phase)
			want, active := m, slices.Contains([]int{1, 2, 3, 4, 5, 6, 9, 10}, phase)
			if active {
				want.Phase, want.Token, want.Err = api.Failed, 0, api.ErrLost
			}
			if Active(m) != active {
				t.Errorf("that %v is active is %v", m, !active)
			}
			if got := Lose(m); got != want {
				t.Errorf("%v, lost, is %v", m, got)
			}
		}
	}
}

// The chapter's example.
func TestItsKeyAlone(t *testing.T) {
	m, _ := Start(api.Mutex, "a", 0, "")
	m = Join(m, 5)
	m = Told(m, api.Reply{Yes: true})
	m = Told(m, api.Reply{Rev: 1, KVs: []api.KV{{Key: "m/a/0000000005", Create: 1}}})
	if m != (api.Machine{Kind: 1, Name: "a", Key: "m/a/0000000005", Lease: 5, Phase: api.Held, Token: 1}) {
		t.Errorf("it is %v", m)
	}
}

// hall is a server, clients that go on over it, and for each key that there is when it was made.
type hall struct {
	t      *testing.T
	random *rand.Rand
	srv    api.Server
	made   map[string]int
	l      []client
}

// client is one whose machine goes on; if it was answered, and was not told yet: the reply, and what there was then.
type client struct {
	who      int
	seq      int
	m        api.Machine
	answered bool
	p        api.Reply
	seen     []api.KV
	made     int
}

// do does r, and keeps when keys were made.
func (h *hall) do(r api.Req) api.Reply {
	s, p := server.Do(h.srv, r)
	there := mvcc.Now(s.Store)
	for k := range h.made {
		if _, is := hist.Find(there, k); !is {
			delete(h.made, k)
		}
	}
	for _, x := range there {
		if h.made[x.Key] == 0 {
			h.made[x.Key] = s.Store.Rev
		}
	}
	h.srv = s
	return p
}

// join is a client with a machine that has a lease.
func (h *hall) join(who int, m api.Machine) client {
	p := h.do(api.Req{Kind: api.Grant, TTL: 50})
	if p.Code != api.OK {
		h.t.Fatalf("of a Grant it is %v", p)
	}
	return client{who: who, m: Join(m, p.Lease)}
}

// ask lets c ask for what it wants, if it was told what it asked for; and sometimes twice.
func (h *hall) ask(c *client) {
	r, is := Ask(c.m)
	if c.answered || !is {
		return
	}
	c.seq++
	r.Who, r.Seq = c.who, c.seq
	c.answered, c.p = true, h.do(r)
	c.seen, c.made = mvcc.Now(h.srv.Store), h.made[c.m.Key]
	if r.Once && h.random.Intn(4) == 0 {
		h.do(r)
	}
}

// tell lets c go on by what it was answered.
func (h *hall) tell(c *client) {
	if !c.answered {
		return
	}
	ahead := c.m
	c.m, c.answered = Told(c.m, c.p), false
	if c.m.Phase == api.Held && ahead.Phase != api.Held {
		h.hold(c)
	}
}

// hold holds what c has against what there was when it was answered, and what there is now.
func (h *hall) hold(c *client) {
	prefix, _ := key.Prefix(c.m.Kind, c.m.Name)
	x, is := hist.Find(c.seen, c.m.Key)
	if !is || c.m.Token != c.made || x.Create != c.made {
		h.t.Fatalf("%v holds, made at %d, by %v", c.m, c.made, c.seen)
	}
	if tickets := hist.From(c.seen, prefix); !ticket.Ready(c.m.Kind, c.m.N, tickets, c.m.Key) {
		h.t.Fatalf("%v holds, and is not ready of %v", c.m, tickets)
	}
	if c.m.Kind == api.Reader || c.m.Kind == api.Permit {
		return
	}
	// Whoever came since came behind it, so that even now nobody is ahead of it.
	for _, y := range hist.From(mvcc.Now(h.srv.Store), prefix) {
		if y.Key != c.m.Key && y.Create < c.m.Token {
			h.t.Fatalf("%v holds beside %v", c.m, y)
		}
	}
}

// cut lets the server forget what was, if it has much of it.
func (h *hall) cut(most int) {
	if len(h.srv.Store.Log) > most {
		h.do(api.Req{Kind: api.Compact, Rev: h.srv.Store.Rev - h.random.Intn(4)})
	}
}

// others does what nobody asked for: a lease ends, keys are laid and taken away.
func (h *hall) others(prefix string) {
	k := fmt.Sprint(prefix, "0", h.random.Intn(4))
	switch c := h.l[h.random.Intn(len(h.l))]; h.random.Intn(6) {
	case 0:
		h.do(api.Req{Kind: api.Revoke, Lease: c.m.Lease})
	case 1:
		h.do(api.Req{Kind: api.Change, Txn: api.Txn{Then: []api.Mut{{Gone: true, Key: c.m.Key}}}})
	case 2:
		h.do(api.Req{Kind: api.Change, Txn: api.Txn{Then: []api.Mut{{Key: c.m.Key, Value: []string{"w", "r", ""}[h.random.Intn(3)]}}}})
	case 3:
		h.do(api.Req{Kind: api.Change, Txn: txn.Put(k, []string{"w", "r", ""}[h.random.Intn(3)], 0)})
	default:
		h.do(api.Req{Kind: api.Change, Txn: api.Txn{Then: []api.Mut{{Gone: true, Key: k}}}})
	}
}

// machine is a new one, of that kind.
func machine(t *testing.T, kind int) api.Machine {
	t.Helper()
	m, is := Start(kind, "x", 2, "v")
	if !is {
		t.Fatalf("of kind %d there is none", kind)
	}
	return m
}

// P16.5: whatever others do in between.
func TestWhoHoldsIsFirst(t *testing.T) {
	held := map[int]int{}
	failed := map[api.Errno]int{}
	for seed := range 400 {
		random := rand.New(rand.NewSource(int64(seed)))
		h := hall{t: t, random: random, srv: server.New(), made: map[string]int{}}
		kinds := [][]int{{1}, {2, 3}, {4}, {5}, {2, 3, 3}}[seed%5]
		for who := range 4 {
			h.l = append(h.l, h.join(who, machine(t, kinds[random.Intn(len(kinds))])))
		}
		prefix, _ := key.Prefix(kinds[0], "x")
		for range 400 {
			c := &h.l[random.Intn(len(h.l))]
			ahead := c.m.Phase
			switch random.Intn(12) {
			case 0, 1, 2, 3:
				h.ask(c)
			case 4, 5, 6, 7:
				h.tell(c)
			case 8:
				if !c.answered {
					c.m, _ = Let(c.m)
				}
			case 9:
				if !c.answered {
					c.m, _ = Say(c.m, fmt.Sprint(random.Intn(9)))
				}
			case 10:
				h.others(prefix)
			case 11:
				h.cut(random.Intn(50))
			}
			if c.m.Phase == api.Held && ahead == api.Look {
				held[c.m.Kind]++
			}
			if !Active(c.m) {
				failed[c.m.Err]++
				h.do(api.Req{Kind: api.Revoke, Lease: c.m.Lease})
				seq := c.seq
				*c = h.join(c.who, machine(t, kinds[random.Intn(len(kinds))]))
				c.seq = seq
			}
		}
	}
	for kind := api.Mutex; kind <= api.Leader; kind++ {
		if held[kind] < 100 {
			t.Errorf("of kind %d only %d held", kind, held[kind])
		}
	}
	// All ends that there are were met: let, lost, and found where it was to be laid.
	for _, e := range []api.Errno{api.OK, api.ErrLost, api.ErrBusy} {
		if failed[e] < 100 {
			t.Errorf("of %d only %d ended", e, failed[e])
		}
	}
}

// beside tells where some hold that may not hold at once.
func (h *hall) beside() {
	var readers, writers, permits, others int
	for _, c := range h.l {
		if c.m.Phase != api.Held && c.m.Phase != api.Say {
			continue
		}
		switch c.m.Kind {
		case api.Reader:
			readers++
		case api.Writer:
			writers++
		case api.Permit:
			permits++
		default:
			others++
		}
	}
	if writers > 1 || writers == 1 && readers > 0 || permits > 2 || others > 1 {
		h.t.Fatalf("they hold at once: %v", h.l)
	}
}

// P16.5: where nobody takes their keys, no two hold at once that may not, tokens rise, and all come to hold.
func TestAllComeToHold(t *testing.T) {
	for seed := range 200 {
		random := rand.New(rand.NewSource(int64(seed)))
		h := hall{t: t, random: random, srv: server.New(), made: map[string]int{}}
		kinds := [][]int{{1}, {2, 3}, {4}, {5}}[seed%4]
		for who := range 6 {
			h.l = append(h.l, h.join(who, machine(t, kinds[random.Intn(len(kinds))])))
		}
		latest, came, over := 0, map[int]bool{}, 0
		for steps := 0; over < len(h.l); steps++ {
			if steps > 20000 {
				t.Fatalf("of seed %d not all were done: %v", seed, h.l)
			}
			c := &h.l[random.Intn(len(h.l))]
			switch ahead := c.m; random.Intn(6) {
			case 0, 1:
				h.ask(c)
			case 2, 3:
				h.tell(c)
				if c.m.Phase == api.Held && ahead.Phase == api.Look {
					if c.m.Token <= latest && (c.m.Kind == api.Mutex || c.m.Kind == api.Leader) {
						t.Fatalf("of seed %d token %d comes behind %d", seed, c.m.Token, latest)
					}
					latest, came[c.who] = c.m.Token, true
				}
				if c.m.Phase == api.Over && ahead.Phase != api.Over {
					over++
				}
			case 4:
				// Leaders say something ahead of going.
				if said, is := Say(c.m, "new"); is && random.Intn(2) == 0 {
					c.m = said
				} else if c.m.Phase == api.Held {
					c.m, _ = Let(c.m)
				}
			case 5:
				h.cut(random.Intn(20))
			}
			h.beside()
		}
		if len(came) != len(h.l) || len(mvcc.Now(h.srv.Store)) != 0 {
			t.Fatalf("of seed %d only %v held, and %v is left", seed, came, mvcc.Now(h.srv.Store))
		}
	}
}

// P16.5: what a leader says stands in its ticket, which is made no later by it; who is behind it hears of it, and waits on.
func TestWhatALeaderSays(t *testing.T) {
	h := hall{t: t, random: rand.New(rand.NewSource(5)), srv: server.New(), made: map[string]int{}}
	first, second := h.join(1, machine(t, api.Leader)), h.join(2, machine(t, api.Leader))
	goOn := func(c *client, steps int) {
		for range steps {
			h.ask(c)
			h.tell(c)
		}
	}
	goOn(&first, 2)
	goOn(&second, 3)
	first.m, _ = Say(first.m, "new")
	goOn(&first, 1)
	goOn(&second, 1)
	x, _ := hist.Find(mvcc.Now(h.srv.Store), first.m.Key)
	if x.Value != "new" || x.Create != 1 || x.Version != 2 || x.Lease != 1 || first.m.Phase != api.Held || first.m.Token != 1 || second.m.Phase != api.Wait || second.m.Rev != 4 {
		t.Errorf("it is %v, %v, %v", x, first.m, second.m)
	}
	// Its key is taken away and laid anew by somebody: it is not the one by which it led.
	first.m, _ = Say(first.m, "newer")
	h.do(api.Req{Kind: api.Change, Txn: txn.Drop(first.m.Key, 1)})
	h.do(api.Req{Kind: api.Change, Txn: txn.Put(first.m.Key, "theirs", 1)})
	goOn(&first, 1)
	goOn(&second, 2)
	if x, _ = hist.Find(mvcc.Now(h.srv.Store), first.m.Key); x.Value != "theirs" || first.m.Phase != api.Failed || first.m.Err != api.ErrLost || second.m.Phase != api.Held || second.m.Token != 2 {
		t.Errorf("it is %v, %v, %v", x, first.m, second.m)
	}
}

// R1: numbers from both ends and lists of anything are no reason to panic.
func TestNothingPanics(t *testing.T) {
	numbers := []int{math.MinInt, -1, 0, 1, 4, 5, 100, maxNumber, maxNumber + 1, math.MaxInt}
	kvs := []api.KV{{}, {Key: "m/x/0000000005", Create: math.MinInt}, {Key: "m/x/0000000005", Create: math.MaxInt}}
	for _, n := range numbers {
		for _, kind := range numbers {
			Start(kind, "x", n, "")
			for _, phase := range phases {
				m := api.Machine{Kind: kind, Name: "x", N: n, Key: "m/x/0000000005", Lease: n, Phase: phase, Token: n, Rev: n, Err: api.Errno(n)}
				Ask(m)
				Join(m, n)
				Let(m)
				Say(m, "")
				Lose(m)
				Told(m, api.Reply{})
				Told(m, api.Reply{Code: api.Errno(n)})
				Told(m, api.Reply{Rev: n, KVs: kvs, Events: []api.Event{{}, {Gone: true, KV: kvs[1]}}})
			}
		}
	}
}

// R5, R6: what is handed in is not changed, and the same again, the answer is the same.
func TestNothingIsChanged(t *testing.T) {
	reply := func() api.Reply {
		return api.Reply{
			Yes:    true,
			Rev:    9,
			KVs:    []api.KV{{Key: "z", Create: 9}, {Key: "s/x/0000000005", Create: 8}, {Key: "a", Create: 2}},
			Events: []api.Event{gone(api.KV{Key: "b"}), laid(api.KV{Key: "a"})},
		}
	}
	p := reply()
	for _, phase := range phases {
		m := in(api.Permit, phase)
		if once, again := Told(m, p), Told(m, p); once != again {
			t.Errorf("of phase %d it is %v, and then %v", phase, once, again)
		}
		r, _ := Ask(m)
		for i := range r.Txn.Then {
			r.Txn.Then[i] = api.Mut{}
		}
		if again, is := Ask(m); is && slices.Contains(again.Txn.Then, api.Mut{}) {
			t.Errorf("of phase %d it is now %v", phase, again)
		}
	}
	if !reflect.DeepEqual(p, reply()) {
		t.Errorf("what was handed in is now %v", p)
	}
}
