package queue

import (
	"fmt"
	"math"
	"math/rand"
	"reflect"
	"slices"
	"strings"
	"testing"

	"baton/api"
	"baton/hist"
	"baton/lock"
	"baton/mvcc"
	"baton/server"
	"baton/txn"
	"baton/wire"
)

const maxNumber = 1<<40 - 1

// long is a value of n bytes.
func long(n int) string {
	return strings.Repeat("v", n)
}

// names are such as there are; others are none.
var (
	names  = []string{"x", "0", "abcdefghij09"}
	others = []string{"", "X", "x/", "x y", "é", "abcdefghijklm", "\x00"}
)

// P19.1
func TestStart(t *testing.T) {
	for _, name := range names {
		for _, value := range []string{"", "v", "\x00\xff \n", long(19), long(20), strings.Repeat("é", 10)} {
			if m, is := Start(7, name, value); m != (api.Machine{Kind: 7, Name: name, Value: value, Phase: 1}) || !is {
				t.Errorf("of %q and %q it is %v, %v", name, value, m, is)
			}
		}
		// Who takes has no use for a value: it is neither asked nor kept.
		for _, value := range []string{"", "v", long(20), long(21), long(999)} {
			if m, is := Start(8, name, value); m != (api.Machine{Kind: 8, Name: name, Phase: 2}) || !is {
				t.Errorf("of %q and %q it is %v, %v", name, value, m, is)
			}
		}
	}
}

// P19.1
func TestStartOfWhatIsWrong(t *testing.T) {
	wrong := func(kind int, name, value string) {
		t.Helper()
		if m, is := Start(kind, name, value); m != (api.Machine{}) || is {
			t.Errorf("of %d, %q and %q it is %v, %v", kind, name, value, m, is)
		}
	}
	for _, kind := range []int{0, -1, 1, 2, 3, 4, 5, 6, 9, 10, 263, 264, math.MinInt, math.MaxInt} {
		wrong(kind, "x", "v")
	}
	for _, name := range others {
		wrong(api.Enqueue, name, "v")
		wrong(api.Dequeue, name, "v")
	}
	for _, value := range []string{long(21), long(999), strings.Repeat("é", 11)} {
		wrong(api.Enqueue, "x", value)
	}
}

// P19.1
func TestLabel(t *testing.T) {
	for i, c := range []struct {
		m   api.Machine
		id  int
		key string
	}{
		{api.Machine{Kind: 7, Name: "x", Value: "v", Phase: 1}, 0, "q/x/0000000000"}, {api.Machine{Kind: 7, Name: "x", Phase: 1}, 1, "q/x/0000000001"},
		{api.Machine{Kind: 7, Name: "zz9", Phase: 1}, 255, "q/zz9/00000000ff"}, {api.Machine{Kind: 7, Name: "x", Phase: 1}, maxNumber, "q/x/ffffffffff"},
		// All else stays as it was, whatever it is.
		{api.Machine{Kind: 7, Name: "x", N: -1, Value: long(30), Lease: 3, Phase: 1, Token: 7, Rev: 8, Err: 9}, 5, "q/x/0000000005"},
	} {
		want := c.m
		want.Key = c.key
		if got := Label(c.m, c.id); got != want {
			t.Errorf("case %d: %v", i, got)
		}
	}
}

// P19.1
func TestLabelOfWhatIsWrong(t *testing.T) {
	m := api.Machine{Kind: 7, Name: "x", N: 3, Value: "v", Lease: 2, Phase: 1, Token: 4, Rev: 6, Err: 3}
	same := func(m api.Machine, id int) {
		t.Helper()
		if got := Label(m, id); got != m {
			t.Errorf("of %v and %d it is %v", m, id, got)
		}
	}
	for _, id := range []int{-1, math.MinInt, maxNumber + 1, math.MaxInt} {
		same(m, id)
	}
	for _, phase := range phases {
		if phase != api.Enter {
			late := m
			late.Phase = phase
			same(late, 5)
		}
	}
	for _, kind := range []int{0, -1, 1, 2, 3, 4, 5, 6, 8, 9, 263, math.MinInt, math.MaxInt} {
		other := m
		other.Kind = kind
		same(other, 5)
	}
	for _, name := range others {
		other := m
		other.Name = name
		same(other, 5)
	}
	for _, k := range []string{"k", "q/x/0000000005", " "} {
		labelled := m
		labelled.Key = k
		same(labelled, 5)
		same(labelled, 6)
	}
	same(api.Machine{}, 5)
}

// phases are all that there are, and some that there are not.
var phases = []int{0, 1, 2, 3, 4, 5, 6, 7, 8, 9, 10, 11, 12, -1, 256, 257, math.MinInt, math.MaxInt}

// wanting are those that want a request, of a kind.
func wanting(kind int) []int {
	switch kind {
	case api.Enqueue:
		return []int{1}
	case api.Dequeue:
		return []int{2, 3, 10}
	}
	return nil
}

// in is a machine of that kind and phase, that has something of all that it may have.
func in(kind, phase int) api.Machine {
	return api.Machine{Kind: kind, Name: "x", N: 2, Value: "v", Key: "q/x/0000000005", Lease: 5, Phase: phase, Token: 4, Rev: 6, Err: 13}
}

// P19.2
func TestAsk(t *testing.T) {
	k := "q/x/0000000005"
	wants := map[[2]int]api.Req{
		{7, 1}:  {Kind: 2, Once: true, Txn: api.Txn{If: []api.Cmp{{Key: k, What: 1, How: 1}}, Then: []api.Mut{{Key: k, Value: "v"}}}},
		{8, 2}:  {Kind: 1, Key: "q/x/"},
		{8, 3}:  {Kind: 3, Key: "q/x/", Rev: 6},
		{8, 10}: {Kind: 2, Once: true, Txn: api.Txn{If: []api.Cmp{{Key: k, What: 1, How: 1, N: 4}}, Then: []api.Mut{{Gone: true, Key: k}}}},
	}
	for kind := -1; kind < 12; kind++ {
		for _, phase := range phases {
			want, wanted := wants[[2]int{kind, phase}]
			r, is := Ask(in(kind, phase))
			if !reflect.DeepEqual(r, want) || is != wanted {
				t.Errorf("of kind %d and phase %d it is %v, %v", kind, phase, r, is)
			}
			if is && !wire.MayAsk(r) {
				t.Errorf("of kind %d and phase %d %v may not be asked", kind, phase, r)
			}
		}
	}
}

// P19.2: the key is m's own, whatever it is, and all else is asked as it stands.
func TestAskAsItStands(t *testing.T) {
	m := api.Machine{Name: "y", Value: long(30), Key: "k k", Lease: -1, Token: -4, Rev: math.MinInt}
	for at, want := range map[[2]int]api.Req{
		{7, 1}:  {Kind: 2, Once: true, Txn: txn.Put("k k", long(30), 0)},
		{8, 2}:  {Kind: 1, Key: "q/y/"},
		{8, 3}:  {Kind: 3, Key: "q/y/", Rev: math.MinInt},
		{8, 10}: {Kind: 2, Once: true, Txn: txn.Drop("k k", -4)},
	} {
		m.Kind, m.Phase = at[0], at[1]
		if r, is := Ask(m); !reflect.DeepEqual(r, want) || !is {
			t.Errorf("of %v it is %v, %v", at, r, is)
		}
	}
}

// replies are of each kind that there is, and some that no server tells.
func replies() []api.Reply {
	a, b := api.KV{Key: "q/x/0000000005", Value: "a", Create: 2}, api.KV{Key: "q/x/0000000007", Value: "b", Create: 1}
	l := []api.Reply{{}, {Yes: true, Rev: 9}, {Rev: 9, KVs: []api.KV{a, b}}, {Rev: 9, Events: []api.Event{gone(a), laid(b)}}}
	for _, e := range codes() {
		l = append(l, api.Reply{Code: e}, api.Reply{Code: e, Yes: true, Rev: 9, KVs: []api.KV{a, b}, Events: []api.Event{gone(a), laid(b)}})
	}
	return l
}

// P19.2 and P19.3: who wants nothing stays as it is, whatever it is told.
func TestWhoWantsNothing(t *testing.T) {
	none := func(m api.Machine) {
		t.Helper()
		if r, is := Ask(m); !reflect.DeepEqual(r, api.Req{}) || is {
			t.Errorf("of %v it is %v, %v", m, r, is)
		}
		for _, p := range replies() {
			if got := Told(m, p); got != m {
				t.Errorf("%v, told %v, is %v", m, p, got)
			}
		}
	}
	for _, phase := range phases {
		for kind := -1; kind < 12; kind++ {
			if !slices.Contains(wanting(kind), phase) {
				none(in(kind, phase))
			}
			for _, name := range others {
				m := in(kind, phase)
				m.Name = name
				none(m)
			}
			// Only who puts needs a key.
			bare := in(kind, phase)
			bare.Key = ""
			if kind != api.Dequeue {
				none(bare)
			} else if _, is := Ask(bare); is != slices.Contains(wanting(kind), phase) {
				t.Errorf("without a key it is %v of phase %d", is, phase)
			}
		}
	}
	none(api.Machine{})
	none(api.Machine{Kind: api.Enqueue, Phase: api.Enter, Key: "k"})
	none(api.Machine{Kind: api.Dequeue, Phase: api.Look})
}

// gone is an event of x, that was taken away.
func gone(x api.KV) api.Event {
	return api.Event{Rev: 8, Gone: true, KV: x}
}

// laid is an event of x, that was laid.
func laid(x api.KV) api.Event {
	return api.Event{Rev: 8, KV: x}
}

// goes tells where m, told p, does not go on to what change makes of it.
func goes(t *testing.T, m api.Machine, p api.Reply, change func(m *api.Machine)) {
	t.Helper()
	want := m
	change(&want)
	if got := Told(m, p); got != want {
		t.Errorf("%v, told %v, is %v, not %v", m, p, got, want)
	}
}

// fails is what becomes of a machine that fails with e.
func fails(e api.Errno) func(*api.Machine) {
	return func(m *api.Machine) { m.Phase, m.Err, m.Token = api.Failed, e, 0 }
}

// to is what becomes of a machine of which only the phase is another one.
func to(phase int) func(*api.Machine) {
	return func(m *api.Machine) { m.Phase = phase }
}

// P19.3: of Enter.
func TestToldOfAPut(t *testing.T) {
	m := in(api.Enqueue, api.Enter)
	for _, rev := range []int{9, 1, 0, -1, maxNumber, math.MaxInt} {
		goes(t, m, api.Reply{Yes: true, Rev: rev}, func(m *api.Machine) { m.Phase, m.Token = api.Over, rev })
		goes(t, m, api.Reply{Rev: rev}, fails(api.ErrBusy))
	}
	goes(t, m, api.Reply{Rev: 9, KVs: []api.KV{{Key: m.Key, Create: 9}}, Events: []api.Event{laid(api.KV{Key: m.Key})}}, fails(api.ErrBusy))
}

// P19.3: of Look.
func TestToldOfALook(t *testing.T) {
	m := in(api.Dequeue, api.Look)
	for _, p := range []api.Reply{{Rev: 9}, {Rev: 9, Yes: true}, {Rev: 9, KVs: []api.KV{}}, {Rev: 9, Events: []api.Event{laid(api.KV{Key: "q/x/a"})}}} {
		goes(t, m, p, func(m *api.Machine) { m.Phase, m.Rev = api.Wait, 10 })
	}
	goes(t, m, api.Reply{}, func(m *api.Machine) { m.Phase, m.Rev = api.Wait, 1 })
	thing := func(k, value string, create int) api.KV {
		return api.KV{Key: k, Value: value, Create: create, Mod: 100 - create, Version: 7, Lease: 3}
	}
	for _, c := range []struct {
		l     []api.KV
		first int
	}{
		{[]api.KV{thing("q/x/a", "1", 7)}, 0}, {[]api.KV{thing("q/x/a", "1", 7), thing("q/x/b", "2", 5)}, 1}, {[]api.KV{thing("q/x/a", "1", 5), thing("q/x/b", "2", 7)}, 0},
		{[]api.KV{thing("q/x/c", "1", 9), thing("q/x/b", "", 3), thing("q/x/a", "3", 5)}, 1}, {[]api.KV{thing("q/x/a", "1", 3), thing("q/x/b", "2", 2), thing("q/x/c", "3", 1)}, 2},
		// What was made at one revision goes by its key, and what is the same in that, too, as it stands.
		{[]api.KV{thing("q/x/b", "1", 5), thing("q/x/a", "2", 5)}, 1}, {[]api.KV{thing("q/x/a", "1", 5), thing("q/x/a", "2", 5)}, 0},
		// Whatever keys there are.
		{[]api.KV{thing("m/y/1", "1", 1), thing("q/x/a", "2", 2)}, 0}, {[]api.KV{thing("", "", 0)}, 0}, {[]api.KV{thing("q/x/a", "1", 1), thing("q/x/b", "2", math.MinInt)}, 1}, {[]api.KV{thing("k k", long(99), math.MaxInt)}, 0},
	} {
		x := c.l[c.first]
		goes(t, m, api.Reply{Rev: 9, KVs: c.l}, func(m *api.Machine) {
			m.Phase, m.Key, m.Token, m.Value = api.Take, x.Key, x.Create, x.Value
		})
	}
}

// P19.3: of Wait.
func TestToldOfAWait(t *testing.T) {
	m := in(api.Dequeue, api.Wait)
	own, a := api.KV{Key: m.Key, Create: 4}, api.KV{Key: "q/x/0000000001", Create: 2}
	for _, rev := range []int{9, 2, 0, -1, math.MaxInt} {
		for _, l := range [][]api.Event{nil, {}, {gone(a)}, {gone(own)}, {gone(a), gone(own), gone(a)}} {
			goes(t, m, api.Reply{Rev: rev, Yes: true, Events: l}, func(m *api.Machine) { m.Rev = rev })
		}
		for _, l := range [][]api.Event{{laid(a)}, {laid(own)}, {gone(a), laid(a)}, {laid(a), gone(a)}, {gone(a), gone(own), laid(own)}, {{}}} {
			goes(t, m, api.Reply{Rev: rev, Events: l}, to(api.Look))
		}
	}
	// Things are not events.
	goes(t, m, api.Reply{Rev: 9, KVs: []api.KV{a}}, func(m *api.Machine) { m.Rev = 9 })
}

// P19.3: of Take.
func TestToldOfATake(t *testing.T) {
	m := in(api.Dequeue, api.Take)
	goes(t, m, api.Reply{Yes: true}, to(api.Over))
	goes(t, m, api.Reply{Yes: true, Rev: 99}, to(api.Over))
	for _, p := range []api.Reply{{}, {Rev: 99}, {Rev: 99, KVs: []api.KV{{Key: m.Key, Create: 4}}}} {
		goes(t, m, p, func(m *api.Machine) { m.Phase, m.Key, m.Value, m.Token = api.Look, "", "", 0 })
	}
}

// codes are all that there are, but OK, and some that there are not.
func codes() []api.Errno {
	l := []api.Errno{-1, 15, 99, math.MinInt, math.MaxInt}
	for e := api.ErrArg; e <= api.ErrBreach; e++ {
		l = append(l, e)
	}
	return l
}

// P19.3: of replies whose Code is not OK, whatever else they say. There is no lease to lose, so ErrLease is as others are.
func TestToldOfACode(t *testing.T) {
	for _, p := range replies() {
		if p.Code == api.OK {
			continue
		}
		goes(t, in(api.Enqueue, api.Enter), p, fails(p.Code))
		for _, phase := range wanting(api.Dequeue) {
			if phase == api.Wait && (p.Code == api.ErrCompact || p.Code == api.ErrRev) {
				goes(t, in(api.Dequeue, phase), p, to(api.Look))
			} else {
				goes(t, in(api.Dequeue, phase), p, fails(p.Code))
			}
		}
	}
}

// thing is one that was put: its key, its value, its token.
type thing struct {
	key   string
	value string
	token int
}

// hall is a server, clients that go on over it, and all things that were put and taken, in the order in which that was done.
type hall struct {
	t      *testing.T
	random *rand.Rand
	srv    api.Server
	put    []thing
	taken  []thing
	ids    int
	l      []client
}

// client is one whose machine goes on; if it was answered, and was not told yet: the reply.
type client struct {
	who      int
	seq      int
	m        api.Machine
	answered bool
	p        api.Reply
}

// do does r, and keeps what was put and taken by it.
func (h *hall) do(r api.Req) api.Reply {
	ahead := mvcc.Now(h.srv.Store)
	s, p := server.Do(h.srv, r)
	behind := mvcc.Now(s.Store)
	for _, x := range behind {
		if y, is := hist.Find(ahead, x.Key); !is || y.Create != x.Create {
			h.put = append(h.put, thing{x.Key, x.Value, x.Create})
		}
	}
	for _, x := range ahead {
		if y, is := hist.Find(behind, x.Key); !is || y.Create != x.Create {
			h.taken = append(h.taken, thing{x.Key, x.Value, x.Create})
		}
	}
	h.srv = s
	return p
}

// ask lets c ask for what it wants, if it was told what it asked for; and sometimes twice.
func (h *hall) ask(c *client) {
	r, is := Ask(c.m)
	if c.answered || !is {
		return
	}
	c.seq++
	r.Who, r.Seq = c.who, c.seq
	c.answered, c.p = true, h.do(r)
	if r.Once && h.random.Intn(4) == 0 {
		h.do(r)
	}
}

// tell lets c go on by what it was answered.
func (h *hall) tell(c *client) {
	if c.answered {
		c.m, c.answered = Told(c.m, c.p), false
	}
}

// machine is a new one of that kind; one that puts has a value of its own, and a key that sometimes is there already.
func (h *hall) machine(kind int) api.Machine {
	h.t.Helper()
	h.ids++
	m, is := Start(kind, "x", fmt.Sprint("v", h.ids))
	if !is {
		h.t.Fatalf("of kind %d there is none", kind)
	}
	return Label(m, h.ids-h.random.Intn(min(h.ids, 3)))
}

// cut lets the server forget what was, if it has much of it.
func (h *hall) cut(most int) {
	if len(h.srv.Store.Log) > most {
		h.do(api.Req{Kind: api.Compact, Rev: h.srv.Store.Rev - h.random.Intn(4)})
	}
}

// rises tells where things of l are not in the order of their tokens, or one is there twice.
func (h *hall) rises(what string, l []thing) {
	h.t.Helper()
	for i := 1; i < len(l); i++ {
		if l[i].token <= l[i-1].token {
			h.t.Fatalf("%s: %v", what, l)
		}
	}
}

// P19.4: whoever puts and takes, and whenever it is told: what is taken was put, and is taken once, in order.
func TestInOrderAndOnce(t *testing.T) {
	ends, waits, again := map[api.Errno]int{}, 0, 0
	for seed := range 400 {
		random := rand.New(rand.NewSource(int64(seed)))
		h := hall{t: t, random: random, srv: server.New()}
		for who := range 5 {
			h.l = append(h.l, client{who: who, m: h.machine(api.Enqueue + random.Intn(2))})
		}
		var put, taken []thing
		for range 300 {
			c := &h.l[random.Intn(len(h.l))]
			ahead := c.m
			switch random.Intn(9) {
			case 0, 1, 2, 3:
				h.ask(c)
			case 4, 5, 6, 7:
				h.tell(c)
			case 8:
				h.cut(random.Intn(20))
			}
			if c.m.Phase == api.Wait && ahead.Phase != api.Wait {
				waits++
			}
			if ahead.Phase == api.Take && c.m.Phase == api.Look {
				again++
			}
			if lock.Active(c.m) {
				continue
			}
			ends[c.m.Err]++
			x := thing{c.m.Key, c.m.Value, c.m.Token}
			switch {
			case c.m.Phase == api.Over && c.m.Kind == api.Enqueue:
				put = append(put, x)
			case c.m.Phase == api.Over:
				taken = append(taken, x)
			}
			// The queue stays short, for a reply to a Look has room for so many things alone.
			kind := api.Dequeue
			if len(h.put)-len(h.taken) < 12 {
				kind -= random.Intn(2)
			}
			c.m = h.machine(kind)
		}
		h.rises("put", h.put)
		h.rises("taken", h.taken)
		for _, x := range append(put, h.taken...) {
			if !slices.Contains(h.put, x) {
				t.Fatalf("of seed %d nobody put %v of %v", seed, x, h.put)
			}
		}
		for i, x := range taken {
			if !slices.Contains(h.taken, x) || slices.Contains(taken[:i], x) {
				t.Fatalf("of seed %d %v of %v was taken twice, or never: %v", seed, x, taken, h.taken)
			}
		}
		// None was left out: whatever was put and not taken came behind all that were.
		if !slices.Equal(h.taken, h.put[:len(h.taken)]) {
			t.Fatalf("of seed %d %v was put, and %v taken", seed, h.put, h.taken)
		}
	}
	// All ends that there are were met: over, and found where it was to be laid.
	if ends[api.OK] < 2000 || ends[api.ErrBusy] < 100 || len(ends) != 2 || waits < 500 || again < 300 {
		t.Errorf("%v ended, only %d waited, and %d looked again", ends, waits, again)
	}
}

// P19.4: as many take as put, and all of them come to have something.
func TestAllAreServed(t *testing.T) {
	for seed := range 300 {
		random := rand.New(rand.NewSource(int64(seed)))
		h := hall{t: t, random: random, srv: server.New()}
		// No more clients than a server keeps replies of.
		n := 1 + seed%4
		for i := range 2 * n {
			m, _ := Start(api.Enqueue+i%2, "x", fmt.Sprint("v", i))
			h.l = append(h.l, client{who: i, m: Label(m, i)})
		}
		over := 0
		var got []thing
		for steps := 0; over < 2*n; steps++ {
			if steps > 20000 {
				t.Fatalf("of seed %d not all were done: %v", seed, h.l)
			}
			c := &h.l[random.Intn(2*n)]
			ahead := c.m.Phase
			switch random.Intn(5) {
			case 0, 1:
				h.ask(c)
			case 2, 3:
				h.tell(c)
			case 4:
				h.cut(random.Intn(20))
			}
			if c.m.Phase == api.Failed {
				t.Fatalf("of seed %d %v failed", seed, c.m)
			}
			if c.m.Phase == api.Over && ahead != api.Over {
				over++
				if c.m.Kind == api.Dequeue {
					got = append(got, thing{c.m.Key, c.m.Value, c.m.Token})
				}
			}
		}
		slices.SortFunc(got, func(x, y thing) int { return x.token - y.token })
		if !slices.Equal(h.put, h.taken) || !slices.Equal(h.put, got) || len(got) != n || len(mvcc.Now(h.srv.Store)) != 0 {
			t.Fatalf("of seed %d %v was put, %v taken, %v got", seed, h.put, h.taken, got)
		}
	}
}

// goOn lets client i ask and be told so many times.
func (h *hall) goOn(i, steps, phase int) {
	h.t.Helper()
	for range steps {
		h.ask(&h.l[i])
		h.tell(&h.l[i])
	}
	if h.l[i].m.Phase != phase {
		h.t.Fatalf("%d is %v", i, h.l[i].m)
	}
}

// The chapter's example, and the document's ninth one: two put, two take, in order, each once.
func TestTwo(t *testing.T) {
	h := hall{t: t, random: rand.New(rand.NewSource(1)), srv: server.New()}
	for i, kind := range []int{7, 7, 8, 8, 8} {
		m, _ := Start(kind, "x", fmt.Sprint("v", i))
		// Who puts first has the greater key: it goes by when it was put.
		h.l = append(h.l, client{who: i, m: Label(m, 9-i)})
	}
	h.goOn(4, 1, api.Wait)
	h.goOn(4, 3, api.Wait)
	h.goOn(0, 1, api.Over)
	h.goOn(1, 1, api.Over)
	h.goOn(2, 1, api.Take)
	h.goOn(3, 1, api.Take)
	h.goOn(2, 1, api.Over)
	h.goOn(3, 1, api.Look)
	h.goOn(3, 2, api.Over)
	if a, b := h.l[2].m, h.l[3].m; a.Value != "v0" || a.Token != 1 || b.Value != "v1" || b.Token != 2 || h.l[0].m.Token != 1 || h.l[1].m.Token != 2 {
		t.Errorf("they are %v", h.l)
	}
	// Who waited is told of what came, finds that it went, and waits on.
	h.goOn(4, 1, api.Look)
	h.goOn(4, 4, api.Wait)
}

// P19.4: who is slow does not take what was put behind its thing, under the same key.
func TestTheSameKey(t *testing.T) {
	h := hall{t: t, random: rand.New(rand.NewSource(1)), srv: server.New()}
	for i, kind := range []int{7, 8, 8, 7} {
		m, _ := Start(kind, "x", fmt.Sprint("v", i))
		h.l = append(h.l, client{who: i, m: Label(m, 5)})
	}
	h.goOn(0, 1, api.Over)
	h.goOn(1, 1, api.Take)
	h.goOn(2, 2, api.Over)
	h.goOn(3, 1, api.Over)
	h.goOn(1, 1, api.Look)
	if l := mvcc.Now(h.srv.Store); len(l) != 1 || l[0].Value != "v3" {
		t.Fatalf("there is %v", l)
	}
	h.goOn(1, 2, api.Over)
	if m := h.l[1].m; m.Value != "v3" || m.Token != 3 {
		t.Errorf("it is %v", m)
	}
}

// R5: what is told is changed by nobody, and what is handed in is not.
func TestNothingIsShared(t *testing.T) {
	kvs := func() []api.KV {
		return []api.KV{{Key: "q/x/b", Create: 9}, {Key: "q/x/a", Create: 3}, {Key: "q/x/c", Create: 5}}
	}
	l := kvs()
	events := []api.Event{gone(l[0]), laid(l[1])}
	for kind := range 10 {
		for _, phase := range phases {
			before, _ := Ask(in(kind, phase))
			for i := range before.Txn.If {
				before.Txn.If[i].Key = "changed"
			}
			for i := range before.Txn.Then {
				before.Txn.Then[i].Key = "changed"
			}
			Told(in(kind, phase), api.Reply{KVs: l, Events: events})
			if r, _ := Ask(in(kind, phase)); len(r.Txn.Then) > 0 && r.Txn.Then[0].Key == "changed" || len(r.Txn.If) > 0 && r.Txn.If[0].Key == "changed" {
				t.Errorf("of kind %d and phase %d it is %v", kind, phase, r)
			}
		}
	}
	if !slices.Equal(l, kvs()) || !slices.Equal(events, []api.Event{gone(l[0]), laid(l[1])}) {
		t.Errorf("there is now %v and %v", l, events)
	}
}

// R1: numbers from both ends and lists of anything are no reason to panic.
func TestNothingPanics(t *testing.T) {
	numbers := []int{math.MinInt, -1, 0, 1, 5, 7, 8, 100, math.MaxInt}
	kvs := []api.KV{{}, {Key: "q/x/0000000005", Create: math.MinInt}, {Key: "q/x/0000000005", Create: math.MaxInt}}
	for _, kind := range numbers {
		for _, name := range []string{"", "x", "X", "\xff", strings.Repeat("x", 999)} {
			Start(kind, name, name)
			for _, phase := range phases {
				for _, n := range numbers {
					m := api.Machine{Kind: kind, Name: name, N: n, Lease: n, Phase: phase, Token: n, Rev: n, Err: api.Errno(n)}
					m = Label(m, n)
					Ask(m)
					Told(m, api.Reply{Rev: n, KVs: kvs})
					Told(m, api.Reply{Rev: n, Yes: true, Events: []api.Event{{Gone: true}, {KV: kvs[1]}}})
					Told(m, api.Reply{Code: api.Errno(n)})
				}
			}
		}
	}
}
