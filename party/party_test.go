package party

import (
	"fmt"
	"math"
	"math/rand"
	"reflect"
	"slices"
	"strings"
	"testing"

	"baton/api"
	"baton/hist"
	"baton/lock"
	"baton/mvcc"
	"baton/server"
	"baton/txn"
	"baton/wire"
)

// P18.1
func TestStart(t *testing.T) {
	for _, name := range []string{"x", "0", "abcdefghij09"} {
		for _, n := range []int{1, 2, 50, 99, 100} {
			if m, is := Start(name, n); m != (api.Machine{Kind: 6, Name: name, N: n, Phase: 1}) || !is {
				t.Errorf("of %q and %d it is %v, %v", name, n, m, is)
			}
		}
		for _, n := range []int{0, -1, 101, 1000, math.MinInt, math.MaxInt} {
			if m, is := Start(name, n); m != (api.Machine{}) || is {
				t.Errorf("of %q and %d it is %v, %v", name, n, m, is)
			}
		}
	}
	for _, name := range []string{"", "X", "x/", "x y", "é", "abcdefghijklm", "\x00"} {
		if m, is := Start(name, 1); m != (api.Machine{}) || is {
			t.Errorf("of %q it is %v, %v", name, m, is)
		}
	}
}

// keyed is a list of things of these keys.
func keyed(keys ...string) []api.KV {
	var l []api.KV
	for i, k := range keys {
		l = append(l, api.KV{Key: k, Create: i + 1})
	}
	return l
}

// P18.1
func TestGuests(t *testing.T) {
	for _, c := range []struct {
		keys string
		name string
		want int
	}{
		{"", "x", 0},
		{"p/x/0000000005", "x", 1}, {"p/x/0000000005 p/x/ffffffffff p/x/0123456789 p/x/abcdef0000", "x", 4},
		{"p/x/0000000000", "x", 1},
		// The flag is none, nor is what has another place, or no such number.
		{"p/x/open", "x", 0}, {"p/x/open p/x/0000000005", "x", 1},
		{"p/x/ p/x p/x/1 p/x/000000005 p/x/00000000005 p/x/000000000g p/x/00000000A0 p/x/000000000/ p/x/-000000001", "x", 0},
		{"p/y/0000000005 p/xx/0000000005 m/x/0000000005 q/x/0000000005 0000000005 pp/x/0000000005", "x", 0},
		{"p/y/0000000005 p/x/0000000005 p/y/0000000006", "y", 2},
		{"p/abcdefghij09/0000000005", "abcdefghij09", 1},
		// Things are counted, not keys.
		{"p/x/0000000005 p/x/0000000005", "x", 2},
		// Of a name that is none, be there such keys or not.
		{"p//0000000005", "", 0}, {"p/X/0000000005 p/x/0000000005", "X", 0}, {"p/x//0000000005", "x/", 0}, {"p/abcdefghijklm/0000000005", "abcdefghijklm", 0}, {"0000000005", "", 0}, {"", "", 0},
	} {
		l := keyed(strings.Fields(c.keys)...)
		if got := Guests(l, c.name); got != c.want {
			t.Errorf("of %q there are %d of %q, not %d", c.keys, got, c.name, c.want)
		}
		if !slices.Equal(l, keyed(strings.Fields(c.keys)...)) {
			t.Errorf("%q is now %v", c.keys, l)
		}
	}
}

// phases are all that there are, and some that there are not.
var phases = []int{0, 1, 2, 3, 4, 5, 6, 7, 8, 9, 10, 11, 12, -1, 256, 257, math.MinInt, math.MaxInt}

// wanting are those that want a request.
var wanting = []int{1, 2, 3, 5, 6, 9}

// in is a machine of that phase, that has something of all that it may have.
func in(phase int) api.Machine {
	return api.Machine{Kind: 6, Name: "x", N: 2, Value: "v", Key: "p/x/0000000005", Lease: 5, Phase: phase, Token: 4, Rev: 6, Err: 13}
}

// P18.2
func TestAsk(t *testing.T) {
	k, flag := "p/x/0000000005", "p/x/open"
	wants := map[int]api.Req{
		1: {Kind: 2, Once: true, Txn: api.Txn{If: []api.Cmp{{Key: k, What: 1, How: 1}}, Then: []api.Mut{{Key: k, Value: "v", Lease: 5}}}},
		2: {Kind: 1, Key: "p/x/"},
		3: {Kind: 3, Key: "p/x/", Rev: 6},
		5: {Kind: 2, Once: true, Txn: api.Txn{Then: []api.Mut{{Gone: true, Key: k}}}},
		6: {Kind: 1, Key: "p/x/"},
		9: {Kind: 2, Once: true, Txn: api.Txn{If: []api.Cmp{{Key: flag, What: 1, How: 1}}, Then: []api.Mut{{Key: flag}}}},
	}
	for _, phase := range phases {
		want, wanted := wants[phase]
		r, is := Ask(in(phase))
		if !reflect.DeepEqual(r, want) || is != wanted {
			t.Errorf("of phase %d it is %v, %v", phase, r, is)
		}
		if is && !wire.MayAsk(r) {
			t.Errorf("of phase %d %v may not be asked", phase, r)
		}
	}
}

// P18.2: the key is m's own, whatever it is, and all else is asked as it stands.
func TestAskAsItStands(t *testing.T) {
	long := strings.Repeat("v", 30)
	m := api.Machine{Kind: 6, Name: "x", N: -1, Value: long, Key: "k k", Lease: -1, Token: -4, Rev: math.MinInt}
	for phase, want := range map[int]api.Req{
		1: {Kind: 2, Once: true, Txn: txn.Put("k k", long, -1)},
		2: {Kind: 1, Key: "p/x/"},
		3: {Kind: 3, Key: "p/x/", Rev: math.MinInt},
		5: {Kind: 2, Once: true, Txn: api.Txn{Then: []api.Mut{{Gone: true, Key: "k k"}}}},
		6: {Kind: 1, Key: "p/x/"},
		9: {Kind: 2, Once: true, Txn: txn.Put("p/x/open", "", 0)},
	} {
		m.Phase = phase
		if r, is := Ask(m); !reflect.DeepEqual(r, want) || !is {
			t.Errorf("of phase %d it is %v, %v", phase, r, is)
		}
	}
}

// replies are of each kind that there is, and some that no server tells.
func replies() []api.Reply {
	mine, other := api.KV{Key: in(0).Key, Create: 1}, api.KV{Key: "p/x/0000000007", Create: 2}
	l := []api.Reply{{}, {Yes: true, Rev: 9}, {Rev: 9, KVs: []api.KV{mine, other}}, {Rev: 9, Events: []api.Event{gone(mine), laid(other)}}}
	for _, e := range codes() {
		l = append(l, api.Reply{Code: e}, api.Reply{Code: e, Yes: true, Rev: 9, KVs: []api.KV{mine, other}, Events: []api.Event{gone(mine), laid(other)}})
	}
	return l
}

// P18.2 and P18.3: who wants nothing stays as it is, whatever it is told.
func TestWhoWantsNothing(t *testing.T) {
	none := func(m api.Machine) {
		t.Helper()
		if r, is := Ask(m); !reflect.DeepEqual(r, api.Req{}) || is {
			t.Errorf("of %v it is %v, %v", m, r, is)
		}
		for _, p := range replies() {
			if got := Told(m, p); got != m {
				t.Errorf("%v, told %v, is %v", m, p, got)
			}
		}
	}
	for _, phase := range phases {
		for _, kind := range []int{0, 1, 2, 3, 4, 5, 7, 8, 9, -1, 262, math.MinInt, math.MaxInt} {
			m := in(phase)
			m.Kind = kind
			none(m)
		}
		for _, name := range []string{"", "X", "x/", "abcdefghijklm"} {
			m := in(phase)
			m.Name = name
			none(m)
		}
		if !slices.Contains(wanting, phase) {
			none(in(phase))
		}
		// Only Enter needs a lease.
		bare := in(phase)
		bare.Lease = 0
		if phase == api.Enter {
			none(bare)
		} else if _, is := Ask(bare); is != slices.Contains(wanting, phase) {
			t.Errorf("without a lease it is %v of phase %d", is, phase)
		}
	}
	none(api.Machine{})
	none(api.Machine{Kind: api.Party, Phase: api.Look})
}

// goes is a machine that is told something, and how it goes on: by what is unlike.
type goes struct {
	m     api.Machine
	p     api.Reply
	phase int
	token int
	rev   int
	err   api.Errno
}

// hold tells where a machine does not go on as c says, all else staying as it was.
func (c goes) hold(t *testing.T) {
	t.Helper()
	want := c.m
	want.Phase, want.Token, want.Rev, want.Err = c.phase, c.token, c.rev, c.err
	if got := Told(c.m, c.p); got != want {
		t.Errorf("%v, told %v, is %v, not %v", c.m, c.p, got, want)
	}
}

// gone is an event of x, that was taken away.
func gone(x api.KV) api.Event {
	return api.Event{Rev: 8, Gone: true, KV: x}
}

// laid is an event of x, that was laid.
func laid(x api.KV) api.Event {
	return api.Event{Rev: 8, KV: x}
}

// P18.3: of Enter, Say and Leave.
func TestToldOfAChange(t *testing.T) {
	for _, c := range []goes{
		{in(api.Enter), api.Reply{Yes: true}, api.Look, 4, 6, 13},
		{in(api.Enter), api.Reply{Yes: true, Rev: 99}, api.Look, 4, 6, 13},
		{in(api.Enter), api.Reply{}, api.Failed, 0, 6, api.ErrBusy},
		{in(api.Enter), api.Reply{Rev: 99, KVs: keyed("p/x/0000000005")}, api.Failed, 0, 6, api.ErrBusy},
		// The flag is there, whoever made it.
		{in(api.Say), api.Reply{Yes: true}, api.Held, 4, 6, 13},
		{in(api.Say), api.Reply{Rev: 99}, api.Held, 4, 6, 13},
		{in(api.Leave), api.Reply{Yes: true, Rev: 99}, api.Left, 0, 6, 13},
		{in(api.Leave), api.Reply{}, api.Left, 0, 6, 13},
	} {
		c.hold(t)
	}
}

// P18.3: of Look.
func TestToldOfALook(t *testing.T) {
	mine, a, b, flag := "p/x/0000000005", "p/x/0000000001", "p/x/0000000009", "p/x/open"
	for _, c := range []struct {
		n     int
		keys  []string
		phase int
	}{
		{1, []string{mine}, api.Say}, {1, []string{a, mine}, api.Say}, {1, []string{mine, flag}, api.Held},
		{2, []string{mine}, api.Wait}, {2, []string{mine, b}, api.Say}, {2, []string{a, mine}, api.Say}, {2, []string{a, mine, b}, api.Say},
		{3, []string{a, mine}, api.Wait}, {3, []string{a, mine, b}, api.Say}, {100, []string{a, mine, b}, api.Wait},
		// By the flag, however few are there still.
		{2, []string{mine, flag}, api.Held}, {100, []string{mine, flag}, api.Held}, {2, []string{flag, a, b, mine}, api.Held}, {2, []string{a, mine, flag}, api.Held},
		// Another party's are nothing to it, nor what is no guest.
		{2, []string{mine, "p/y/0000000001", "p/y/open", "p/x/000000000g", "p/x/opens", "p/x/ope", "m/x/0000000001", "open"}, api.Wait},
		// Numbers that no party has.
		{0, []string{mine}, api.Say}, {math.MinInt, []string{mine}, api.Say}, {math.MaxInt, []string{mine, a, b}, api.Wait},
	} {
		m, rev := in(api.Look), 6
		m.N = c.n
		if c.phase == api.Wait {
			rev = 100
		}
		goes{m, api.Reply{Rev: 99, KVs: keyed(c.keys...)}, c.phase, slices.Index(c.keys, mine) + 1, rev, 13}.hold(t)
	}
	// It is lost, whoever else is there, and be the flag there.
	for _, l := range [][]api.KV{nil, keyed(a), keyed(a, b), keyed(a, b, flag), keyed(flag), keyed(mine+"0", "p/y/0000000005")} {
		goes{in(api.Look), api.Reply{Rev: 99, Yes: true, KVs: l}, api.Failed, 0, 6, api.ErrLost}.hold(t)
	}
	// Its own comes twice: the first one counts.
	goes{in(api.Look), api.Reply{Rev: 99, KVs: []api.KV{{Key: mine, Create: 9}, {Key: mine, Create: 3}}}, api.Say, 9, 6, 13}.hold(t)
}

// P18.3: of Wait.
func TestToldOfAWait(t *testing.T) {
	m := in(api.Wait)
	own, a, flag, far := api.KV{Key: m.Key, Create: 4}, api.KV{Key: "p/x/0000000001", Create: 2}, api.KV{Key: "p/x/open"}, api.KV{Key: m.Key + "0", Create: 9}
	for _, c := range []struct {
		events []api.Event
		phase  int
		rev    int
	}{
		{nil, api.Wait, 99}, {[]api.Event{}, api.Wait, 99},
		// Who goes is nothing to it.
		{[]api.Event{gone(a)}, api.Wait, 99}, {[]api.Event{gone(a), gone(flag), gone(far)}, api.Wait, 99},
		{[]api.Event{laid(a)}, api.Look, 6}, {[]api.Event{laid(flag)}, api.Look, 6}, {[]api.Event{laid(own)}, api.Look, 6}, {[]api.Event{laid(far)}, api.Look, 6},
		{[]api.Event{gone(a), laid(a)}, api.Look, 6}, {[]api.Event{laid(a), gone(a)}, api.Look, 6}, {[]api.Event{laid(a), gone(far), gone(a)}, api.Look, 6},
		// Its own comes first, wherever it stands, and whatever comes behind it.
		{[]api.Event{gone(own)}, api.Failed, 6}, {[]api.Event{laid(flag), gone(own)}, api.Failed, 6}, {[]api.Event{gone(own), laid(flag)}, api.Failed, 6}, {[]api.Event{gone(a), gone(own), laid(own)}, api.Failed, 6},
	} {
		token, e := 4, m.Err
		if c.phase == api.Failed {
			token, e = 0, api.ErrLost
		}
		goes{m, api.Reply{Rev: 99, Events: c.events}, c.phase, token, c.rev, e}.hold(t)
	}
	// What it waits from is what it is told, also where that is less.
	goes{m, api.Reply{Rev: 2}, api.Wait, 4, 2, 13}.hold(t)
	goes{m, api.Reply{Events: []api.Event{gone(a)}}, api.Wait, 4, 0, 13}.hold(t)
}

// P18.3: of Left.
func TestToldOfThoseWhoStay(t *testing.T) {
	mine, a, flag := "p/x/0000000005", "p/x/0000000001", "p/x/open"
	for _, c := range []struct {
		keys  []string
		phase int
	}{
		{nil, api.Over}, {[]string{flag}, api.Over}, {[]string{"p/y/0000000001", "p/x/000000000g", "p/x/", "m/x/0000000001"}, api.Over},
		{[]string{a}, api.Left}, {[]string{a, flag}, api.Left}, {[]string{flag, a}, api.Left}, {[]string{mine}, api.Left}, {[]string{mine, a}, api.Left},
	} {
		for _, token := range []int{0, 4} {
			m := in(api.Left)
			m.Token = token
			goes{m, api.Reply{Rev: 99, KVs: keyed(c.keys...)}, c.phase, token, 6, 13}.hold(t)
		}
	}
}

// codes are all that there are, but OK, and some that there are not.
func codes() []api.Errno {
	l := []api.Errno{-1, 15, 99, math.MinInt, math.MaxInt}
	for e := api.ErrArg; e <= api.ErrBreach; e++ {
		l = append(l, e)
	}
	return l
}

// P18.3: of replies whose Code is not OK, whatever else they say.
func TestToldOfACode(t *testing.T) {
	for _, p := range replies() {
		if p.Code == api.OK {
			continue
		}
		as := p.Code
		if as == api.ErrLease {
			as = api.ErrLost
		}
		for _, phase := range wanting {
			if phase == api.Wait && (p.Code == api.ErrCompact || p.Code == api.ErrRev) {
				goes{in(phase), p, api.Look, 4, 6, 13}.hold(t)
			} else {
				goes{in(phase), p, api.Failed, 0, 6, as}.hold(t)
			}
		}
	}
}

// P18.4: by its phase alone.
func TestLet(t *testing.T) {
	for kind := -1; kind < 10; kind++ {
		for _, phase := range phases {
			m := in(phase)
			m.Kind = kind
			want, lets := m, phase == api.Held
			if lets {
				want.Phase = api.Leave
			}
			if got, is := Let(m); got != want || is != lets {
				t.Errorf("of %v it is %v, %v", m, got, is)
			}
		}
	}
}

// Join, Lose and Active are lock's.
func TestLocksCalls(t *testing.T) {
	m, _ := Start("x", 3)
	if m = lock.Join(m, 5); m != (api.Machine{Kind: 6, Name: "x", N: 3, Key: "p/x/0000000005", Lease: 5, Phase: 1}) {
		t.Errorf("joined, it is %v", m)
	}
	for _, phase := range wanting {
		if lost := lock.Lose(in(phase)); !lock.Active(in(phase)) || lost.Phase != api.Failed || lost.Err != api.ErrLost || lost.Token != 0 {
			t.Errorf("of phase %d it is %v", phase, lost)
		}
	}
}

// hall is a server, clients that go on over it, and the most guests that it ever had at once.
type hall struct {
	t      *testing.T
	random *rand.Rand
	srv    api.Server
	most   int
	l      []client
}

// client is one whose machine goes on; if it was answered, and was not told yet: the reply, and how many guests there
// were then, and had been at most.
type client struct {
	who      int
	seq      int
	m        api.Machine
	answered bool
	p        api.Reply
	guests   int
	most     int
}

// do does r, and keeps how many guests there are.
func (h *hall) do(r api.Req) api.Reply {
	s, p := server.Do(h.srv, r)
	h.srv = s
	h.most = max(h.most, h.guests())
	return p
}

// guests is how many there are: whoever has a key but the flag, of those that a test lays.
func (h *hall) guests() int {
	guests := 0
	for _, x := range mvcc.Now(h.srv.Store) {
		if len(x.Key) == len("p/x/0000000005") {
			guests++
		}
	}
	return guests
}

// join is a client with a machine that has a lease.
func (h *hall) join(who, n int) client {
	h.t.Helper()
	m, is := Start("x", n)
	p := h.do(api.Req{Kind: api.Grant, TTL: 50})
	if !is || p.Code != api.OK {
		h.t.Fatalf("of %d it is %v, %v", n, m, p)
	}
	return client{who: who, m: lock.Join(m, p.Lease)}
}

// ask lets c ask for what it wants, if it was told what it asked for; and sometimes twice.
func (h *hall) ask(c *client) {
	r, is := Ask(c.m)
	if c.answered || !is {
		return
	}
	c.seq++
	r.Who, r.Seq = c.who, c.seq
	c.answered, c.p = true, h.do(r)
	c.guests, c.most = h.guests(), h.most
	if r.Once && h.random.Intn(4) == 0 {
		h.do(r)
	}
}

// tell lets c go on by what it was answered.
func (h *hall) tell(c *client) {
	if !c.answered {
		return
	}
	ahead := c.m
	c.m, c.answered = Told(c.m, c.p), false
	if c.m.Phase == ahead.Phase {
		return
	}
	switch c.m.Phase {
	case api.Held:
		h.holds(c)
	case api.Over:
		if c.guests != 0 {
			h.t.Fatalf("%v is over beside %d", c.m, c.guests)
		}
	}
}

// holds tells where c holds, and not as many were there as somebody waited for.
func (h *hall) holds(c *client) {
	for _, other := range h.l {
		if c.most >= other.m.N {
			return
		}
	}
	h.t.Fatalf("%v holds, and at most %d were there", c.m, c.most)
}

// cut lets the server forget what was, if it has much of it.
func (h *hall) cut(most int) {
	if len(h.srv.Store.Log) > most {
		h.do(api.Req{Kind: api.Compact, Rev: h.srv.Store.Rev - h.random.Intn(4)})
	}
}

// others does what nobody asked for: a lease ends, keys are laid and taken away, but not the flag.
func (h *hall) others() {
	stranger := fmt.Sprint("p/x/00000000f", h.random.Intn(3))
	switch c := h.l[h.random.Intn(len(h.l))]; h.random.Intn(6) {
	case 0:
		h.do(api.Req{Kind: api.Revoke, Lease: c.m.Lease})
	case 1:
		h.do(api.Req{Kind: api.Change, Txn: api.Txn{Then: []api.Mut{{Gone: true, Key: c.m.Key}}}})
	case 2:
		h.do(api.Req{Kind: api.Change, Txn: api.Txn{Then: []api.Mut{{Key: c.m.Key}}}})
	case 3:
		h.do(api.Req{Kind: api.Change, Txn: txn.Put(stranger, "", 0)})
	default:
		h.do(api.Req{Kind: api.Change, Txn: api.Txn{Then: []api.Mut{{Gone: true, Key: stranger}}}})
	}
}

// P18.5: whatever others do in between.
func TestNobodyIsEarly(t *testing.T) {
	ends, held, waits := map[api.Errno]int{}, 0, 0
	for seed := range 1000 {
		random := rand.New(rand.NewSource(int64(seed)))
		h := hall{t: t, random: random, srv: server.New()}
		for who := range 4 {
			n := 3
			if seed%2 == 0 {
				n = 2 + random.Intn(4)
			}
			h.l = append(h.l, h.join(who, n))
		}
		for range 250 {
			c := &h.l[random.Intn(len(h.l))]
			ahead := c.m.Phase
			switch random.Intn(12) {
			case 0, 1, 2, 3:
				h.ask(c)
			case 4, 5, 6, 7:
				h.tell(c)
			case 8, 9:
				c.m, _ = Let(c.m)
			case 10:
				h.others()
			case 11:
				h.cut(random.Intn(20))
			}
			if c.m.Phase == api.Held && ahead != api.Held {
				held++
			}
			if c.m.Phase == api.Wait && ahead != api.Wait {
				waits++
			}
			if !lock.Active(c.m) {
				ends[c.m.Err]++
				h.do(api.Req{Kind: api.Revoke, Lease: c.m.Lease})
				again := h.join(c.who, c.m.N)
				again.seq = c.seq
				*c = again
			}
		}
	}
	// All ends that there are were met: over, lost, and found where it was to be laid.
	if held < 2000 || waits < 500 || ends[api.OK] < 500 || ends[api.ErrLost] < 500 || ends[api.ErrBusy] < 100 {
		t.Errorf("only %d held, %d waited, %v ended", held, waits, ends)
	}
}

// P18.5: where nobody takes their keys, all hold, none of them ahead of the last one's coming, and all are over, none
// of them ahead of the last one's going.
func TestAllComeAndGo(t *testing.T) {
	for seed := range 300 {
		random := rand.New(rand.NewSource(int64(seed)))
		h := hall{t: t, random: random, srv: server.New()}
		n := 1 + seed%6
		for who := range n {
			h.l = append(h.l, h.join(who, n))
		}
		came, went, held, over := 0, 0, 0, 0
		for steps := 0; over < n; steps++ {
			if steps > 20000 {
				t.Fatalf("of seed %d not all were done: %v", seed, h.l)
			}
			c := &h.l[random.Intn(n)]
			ahead := c.m.Phase
			switch random.Intn(6) {
			case 0, 1:
				h.ask(c)
			case 2, 3:
				h.tell(c)
			case 4:
				c.m, _ = Let(c.m)
			case 5:
				h.cut(random.Intn(20))
			}
			if ahead == c.m.Phase {
				continue
			}
			switch {
			case c.m.Phase == api.Failed:
				t.Fatalf("of seed %d %v failed", seed, c.m)
			case ahead == api.Enter:
				came++
			case c.m.Phase == api.Held:
				held++
				if h.most != n || c.m.Token == 0 {
					t.Fatalf("of seed %d %v holds when %d had come", seed, c.m, came)
				}
			case c.m.Phase == api.Left:
				went++
			case c.m.Phase == api.Over:
				over++
				if h.guests() != 0 {
					t.Fatalf("of seed %d %v is over when %d had gone", seed, c.m, went)
				}
			}
		}
		if came != n || held != n || went != n {
			t.Fatalf("of seed %d %d came, %d held, %d went", seed, came, held, went)
		}
		// The flag stays, and was made once.
		if l := mvcc.Now(h.srv.Store); len(l) != 1 || l[0].Key != "p/x/open" || l[0].Version != 1 || l[0].Lease != 0 {
			t.Fatalf("of seed %d %v is left", seed, l)
		}
	}
}

// The chapter's example, and the document's eighth one: two wait, the third one raises the flag; who leaves waits for all.
func TestThree(t *testing.T) {
	h := hall{t: t, random: rand.New(rand.NewSource(1)), srv: server.New()}
	for who := range 3 {
		h.l = append(h.l, h.join(who, 3))
	}
	goOn := func(i, steps, phase int) {
		t.Helper()
		for range steps {
			h.ask(&h.l[i])
			h.tell(&h.l[i])
		}
		if h.l[i].m.Phase != phase {
			t.Fatalf("%d is %v", i, h.l[i].m)
		}
	}
	goOn(0, 5, api.Wait)
	goOn(1, 5, api.Wait)
	goOn(0, 3, api.Wait)
	goOn(2, 2, api.Say)
	if _, is := hist.Find(mvcc.Now(h.srv.Store), "p/x/open"); is {
		t.Fatal("the flag was raised by nobody")
	}
	goOn(2, 1, api.Held)
	if x, is := hist.Find(mvcc.Now(h.srv.Store), "p/x/open"); !is || x.Lease != 0 || x.Value != "" {
		t.Fatalf("the flag is %v, %v", x, is)
	}
	// It leaves ahead of the others' knowing that all were there.
	h.l[2].m, _ = Let(h.l[2].m)
	goOn(2, 3, api.Left)
	goOn(0, 2, api.Held)
	goOn(1, 2, api.Held)
	h.l[0].m, _ = Let(h.l[0].m)
	goOn(0, 3, api.Left)
	goOn(2, 1, api.Left)
	h.l[1].m, _ = Let(h.l[1].m)
	goOn(1, 2, api.Over)
	goOn(0, 1, api.Over)
	goOn(2, 1, api.Over)
	// Who comes late finds the flag.
	late := h.join(3, 3)
	h.l = append(h.l, late)
	goOn(3, 2, api.Held)
}

// R5: what is told is changed by nobody, and what is handed in is not.
func TestNothingIsShared(t *testing.T) {
	l := keyed("p/x/0000000001", "p/x/0000000005", "p/x/open")
	events := []api.Event{gone(l[0]), laid(l[1])}
	for _, phase := range phases {
		before, _ := Ask(in(phase))
		for i := range before.Txn.If {
			before.Txn.If[i].Key = "changed"
		}
		for i := range before.Txn.Then {
			before.Txn.Then[i].Key = "changed"
		}
		Told(in(phase), api.Reply{KVs: l, Events: events})
		if r, _ := Ask(in(phase)); len(r.Txn.Then) > 0 && r.Txn.Then[0].Key == "changed" || len(r.Txn.If) > 0 && r.Txn.If[0].Key == "changed" {
			t.Errorf("of phase %d it is %v", phase, r)
		}
	}
	Guests(l, "x")
	if !slices.Equal(l, keyed("p/x/0000000001", "p/x/0000000005", "p/x/open")) || !slices.Equal(events, []api.Event{gone(l[0]), laid(l[1])}) {
		t.Errorf("there is now %v and %v", l, events)
	}
}

// R1: numbers from both ends and lists of anything are no reason to panic.
func TestNothingPanics(t *testing.T) {
	numbers := []int{math.MinInt, -1, 0, 1, 5, 6, 100, math.MaxInt}
	kvs := []api.KV{{}, {Key: "p/x/0000000005", Create: math.MinInt}, {Key: "p/x/0000000005", Create: math.MaxInt}}
	for _, n := range numbers {
		for _, name := range []string{"", "x", "X", "\xff", strings.Repeat("x", 999)} {
			Start(name, n)
			Guests(kvs, name)
			for _, kind := range numbers {
				for _, phase := range phases {
					m := api.Machine{Kind: kind, Name: name, N: n, Key: kvs[1].Key, Lease: n, Phase: phase, Token: n, Rev: n, Err: api.Errno(n)}
					Ask(m)
					Let(m)
					Told(m, api.Reply{Rev: n, KVs: kvs})
					Told(m, api.Reply{Rev: n, Yes: true, Events: []api.Event{{Gone: true}, {KV: kvs[1]}}})
					Told(m, api.Reply{Code: api.Errno(n)})
				}
			}
		}
	}
}
