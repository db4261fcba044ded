package node

import (
	"math"
	"math/rand"
	"reflect"
	"slices"
	"strings"
	"testing"

	"baton/api"
	"baton/call"
	"baton/lock"
	"baton/server"
	"baton/sess"
	"baton/txn"
	"baton/wire"
)

const maxNumber = 1<<40 - 1

// phases are all that there are, and some that there are not.
var phases = []int{0, 1, 2, 3, 4, 5, 6, 7, 8, 9, 10, 11, 12, -1, 256, 260, math.MinInt, math.MaxInt}

// active are the phases of a recipe that is on its way.
var active = []int{1, 2, 3, 4, 5, 6, 9, 10}

// kinds are all that there are, and some that there are not.
var kinds = []int{1, 2, 3, 4, 5, 6, 7, 8, 0, -1, 9, 257, math.MinInt, math.MaxInt}

// long is a value of n bytes.
func long(n int) string {
	return strings.Repeat("v", n)
}

// same tells whether two clients are the same one.
func same(a, b api.Node) bool {
	return reflect.DeepEqual(a, b)
}

// request is one of a recipe, as it may be on its way.
func request() api.Req {
	return api.Req{Kind: api.Change, Who: 18, Seq: 7, Once: true, Txn: txn.Put("m/x/0000000003", "", 3)}
}

// with is a client whose recipe is m, and whose session has lease 3, at 100 till 276.
func with(m api.Machine) api.Node {
	return api.Node{Life: 1, Clock: 100, Seq: 7, Sess: api.Sess{Lease: 3, TTL: 200, Until: 276, Keep: 188}, Mach: m}
}

// in is a recipe of that kind and phase under lease 3, that has something of all that it may have.
func in(kind, phase int) api.Machine {
	return api.Machine{Kind: kind, Name: "x", N: 2, Value: "v", Key: "k", Lease: 3, Phase: phase, Token: 4, Rev: 6, Err: 13}
}

// told are the bytes of a reply.
func reply(p api.Reply) string {
	s, _ := wire.Tell(p)
	return s
}

// asked is the only request of what was sent.
func asked(t *testing.T, out []string) api.Req {
	t.Helper()
	if len(out) != 1 {
		t.Fatalf("it sent %d messages: %q", len(out), out)
	}
	r, is := wire.Asked(out[0])
	if !is {
		t.Fatalf("it sent no request: %q", out[0])
	}
	return r
}

// P21.1
func TestWho(t *testing.T) {
	for _, c := range []struct{ i, life, who int }{
		{0, 0, 0}, {2, 1, 18}, {15, 0, 15}, {15, 1, 31}, {0, 1, 16}, {15, 1<<36 - 1, maxNumber},
		{16, 0, -1}, {-1, 0, -1}, {0, -1, -1}, {0, 1 << 36, -1}, {math.MinInt, 0, -1}, {math.MaxInt, 0, -1}, {0, math.MinInt, -1}, {0, math.MaxInt, -1},
	} {
		// It hangs on nothing else.
		n := with(in(1, 4))
		n.Life, n.Down, n.Paused = c.life, true, true
		if who, again := Who(c.i, api.Node{Life: c.life}), Who(c.i, n); who != c.who || again != c.who {
			t.Errorf("of %d and life %d it is %d, %d", c.i, c.life, who, again)
		}
	}
}

// P21.1
func TestHolds(t *testing.T) {
	for _, kind := range kinds {
		for _, phase := range phases {
			if Holds(with(in(kind, phase))) != (phase == 4 || phase == 9) {
				t.Errorf("of kind %d and phase %d it is wrong", kind, phase)
			}
		}
	}
	for i, c := range []struct {
		mine, lease, until, now int
		holds                   bool
	}{
		{3, 3, 276, 275, true}, {3, 3, 276, 276, false}, {3, 3, 276, 277, false}, {3, 3, 276, -5, true}, {3, 4, 276, 100, false}, {4, 3, 276, 100, false},
		{0, 3, 276, 100, false}, {3, 0, 276, 100, false}, {0, 0, 276, 100, false}, {-1, -1, 276, 100, true}, {1, 1, math.MinInt, math.MinInt, false}, {1, 1, math.MaxInt, math.MinInt, true},
	} {
		n := api.Node{Clock: c.now, Sess: api.Sess{Lease: c.lease, Until: c.until}, Mach: api.Machine{Lease: c.mine, Phase: api.Held}}
		if Holds(n) != c.holds {
			t.Errorf("case %d: it is %v", i, !c.holds)
		}
		// Nothing else is asked: neither whether it stands still, nor whether it asks for something.
		n.Down, n.Paused, n.Main.On, n.Life = true, true, true, -1
		if Holds(n) != c.holds {
			t.Errorf("case %d, standing still: it is %v", i, !c.holds)
		}
	}
}

// P21.2
func TestStart(t *testing.T) {
	for i, c := range []struct {
		of, is api.Machine
	}{
		{api.Machine{Kind: 1, Name: "x", N: 3, Value: "v"}, api.Machine{Kind: 1, Name: "x", Phase: 1}},
		{api.Machine{Kind: 2, Name: "x", N: 3, Value: "v"}, api.Machine{Kind: 2, Name: "x", Value: "r", Phase: 1}},
		{api.Machine{Kind: 3, Name: "x", N: 3, Value: "v"}, api.Machine{Kind: 3, Name: "x", Value: "w", Phase: 1}},
		{api.Machine{Kind: 4, Name: "x", N: 3, Value: "v"}, api.Machine{Kind: 4, Name: "x", N: 3, Phase: 1}},
		{api.Machine{Kind: 5, Name: "x", N: 3, Value: "v"}, api.Machine{Kind: 5, Name: "x", Value: "v", Phase: 1}},
		{api.Machine{Kind: 6, Name: "x", N: 3, Value: "v"}, api.Machine{Kind: 6, Name: "x", N: 3, Phase: 1}},
		{api.Machine{Kind: 7, Name: "x", N: 3, Value: "v"}, api.Machine{Kind: 7, Name: "x", Value: "v", Key: "q/x/0000120008", Phase: 1}},
		{api.Machine{Kind: 8, Name: "x", N: 3, Value: "v"}, api.Machine{Kind: 8, Name: "x", Phase: 2}},
	} {
		// Of what it is to be only Kind, Name, N and Value count.
		of := c.of
		of.Key, of.Lease, of.Phase, of.Token, of.Rev, of.Err = "k", 9, 4, 8, 7, 6
		for _, was := range []api.Machine{{}, in(1, 7), in(8, 8), in(5, 0), in(0, 11)} {
			want := with(c.is)
			if n, e := Start(2, with(was), of); !same(n, want) || e != api.OK {
				t.Errorf("case %d: behind %v it is %v, %d", i, was, n.Mach, e)
			}
		}
	}
	// A call for the session, and a session, are no hindrance, nor is it that the session is over.
	n := with(api.Machine{})
	n.Clock, n.Side = 999, call.Begin(request(), 5)
	if got, e := Start(2, n, api.Machine{Kind: 1, Name: "x"}); e != api.OK || got.Mach.Phase != 1 || !got.Side.On || got.Sess != n.Sess {
		t.Errorf("it is %v, %d", got, e)
	}
}

// P21.2: what is put is labelled so that no other one has that label.
func TestStartLabels(t *testing.T) {
	for _, c := range []struct {
		i, life, seq int
		key          string
		e            api.Errno
	}{
		{0, 0, 0, "q/x/0000000001", 0}, {3, 2, 4, "q/x/0000230005", 0}, {0, 0, 65534, "q/x/000000ffff", 0}, {15, 1<<20 - 1, 65534, "q/x/ffffffffff", 0}, {15, 1<<20 - 1, 0, "q/x/ffffff0001", 0},
		{0, 1 << 20, 0, "", 4}, {15, 1<<36 - 1, 0, "", 4}, {0, 0, 65535, "", 4}, {0, 0, 65536, "", 4}, {0, 0, -1, "", 4}, {0, 0, -2, "", 4}, {0, 0, math.MinInt, "", 4}, {0, 0, math.MaxInt, "", 4}, {0, 0, 1<<32 + 5, "", 4},
	} {
		n := api.Node{Life: c.life, Seq: c.seq, Mach: in(1, 7)}
		want := n
		if c.e == 0 {
			want.Mach = api.Machine{Kind: 7, Name: "x", Key: c.key, Phase: 1}
		}
		if got, e := Start(c.i, n, api.Machine{Kind: 7, Name: "x"}); !same(got, want) || e != c.e {
			t.Errorf("of %v it is %v, %d", c, got, e)
		}
		// No other kind has a label, or needs room for one.
		for kind := 1; kind < 9; kind++ {
			if got, e := Start(c.i, n, api.Machine{Kind: kind, Name: "x", N: 1}); kind != 7 && (e != 0 || got.Mach.Key != "") {
				t.Errorf("of %v and kind %d it is %v, %d", c, kind, got.Mach, e)
			}
		}
	}
}

// P21.2
func TestStartOfWhatIsWrong(t *testing.T) {
	wrong := func(what string, i int, n api.Node, m api.Machine, want api.Errno) {
		t.Helper()
		if got, e := Start(i, n, m); !same(got, n) || e != want {
			t.Errorf("of %s it is %v, %d", what, got, e)
		}
	}
	none := api.Machine{Kind: 7}
	full := api.Machine{Kind: 7, Name: "x"}
	for _, m := range []api.Machine{{Kind: 1, Name: "x"}, none, full} {
		// Its number has no room for what is put, either, and nothing is told of that.
		n := with(api.Machine{})
		n.Seq = 65535
		for i := range 16 {
			down, paused, asks, dead := n, n, n, n
			down.Down, paused.Paused, asks.Main.On, dead.Life = true, true, true, 1<<36
			wrong("who is down", i, down, m, api.ErrBusy)
			wrong("who is paused", i, paused, m, api.ErrBusy)
			wrong("who waits", i, asks, m, api.ErrBusy)
			wrong("no life", i, dead, m, api.ErrBusy)
			dead.Life = -1
			wrong("no life", i, dead, m, api.ErrBusy)
		}
		for _, i := range []int{-1, 16, math.MinInt, math.MaxInt} {
			wrong("no number", i, n, m, api.ErrBusy)
		}
		for _, kind := range kinds {
			for _, phase := range active {
				n.Mach = in(kind, phase)
				wrong("who is on its way", 2, n, m, api.ErrBusy)
			}
		}
	}
	n := with(in(1, 8))
	n.Seq = 65535
	for _, m := range []api.Machine{
		{}, none, {Kind: 1}, {Kind: 1, Name: "X"}, {Kind: 5, Name: "abcdefghijklm"}, {Kind: 9, Name: "x"}, {Kind: -1, Name: "x"}, {Kind: 0, Name: "x"}, {Kind: math.MinInt, Name: "x"},
		{Kind: 4, Name: "x"}, {Kind: 4, Name: "x", N: 101}, {Kind: 6, Name: "x"}, {Kind: 6, Name: "x", N: -1}, {Kind: 6, Name: "x", N: 101}, {Kind: 6, N: 1}, {Kind: 8}, {Kind: 8, Name: "x y"},
		{Kind: 5, Name: "x", Value: long(21)}, {Kind: 7, Name: "x", Value: long(21)},
	} {
		wrong("no recipe", 2, n, m, api.ErrArg)
	}
	wrong("no room", 2, n, full, api.ErrFull)
}

// P21.3
func TestRelease(t *testing.T) {
	for _, kind := range kinds {
		for _, phase := range phases {
			n := with(in(kind, phase))
			want, e := n, api.ErrNone
			lets := phase == 4 && kind == 6 || (phase == 2 || phase == 3 || phase == 4) && kind != 6 && kind != 7 && kind != 8
			if lets {
				want.Mach.Phase, e = 5, api.OK
			}
			if got, f := Release(n); !same(got, want) || f != e {
				t.Errorf("of kind %d and phase %d it is %v, %d", kind, phase, got, f)
			}
			for i, still := range []func(*api.Node){func(n *api.Node) { n.Down = true }, func(n *api.Node) { n.Paused = true }, func(n *api.Node) { n.Main = call.Begin(request(), 5) }} {
				n := n
				still(&n)
				if got, e := Release(n); !same(got, n) || e != api.ErrBusy {
					t.Errorf("of kind %d and phase %d, case %d: it is %v, %d", kind, phase, i, got, e)
				}
			}
		}
	}
	// Neither its session nor its life is asked, and a call for the session is no hindrance.
	n := with(in(1, 4))
	n.Life, n.Clock, n.Side.On = -1, 999, true
	if got, e := Release(n); e != api.OK || got.Mach.Phase != 5 || got.Life != -1 || !got.Side.On {
		t.Errorf("it is %v, %d", got, e)
	}
}

// P21.3
func TestTell(t *testing.T) {
	for _, kind := range kinds {
		for _, phase := range phases {
			for _, value := range []string{"", "new", long(20), long(21)} {
				n := with(in(kind, phase))
				want, e := n, api.ErrNone
				if kind == 5 && phase == 4 && len(value) <= 20 {
					want.Mach.Phase, want.Mach.Value, e = 9, value, api.OK
				}
				if got, f := Tell(n, value); !same(got, want) || f != e {
					t.Errorf("of kind %d, phase %d and %q it is %v, %d", kind, phase, value, got, f)
				}
				for i, still := range []func(*api.Node){func(n *api.Node) { n.Down = true }, func(n *api.Node) { n.Paused = true }, func(n *api.Node) { n.Main = call.Begin(request(), 5) }} {
					n := n
					still(&n)
					if got, e := Tell(n, value); !same(got, n) || e != api.ErrBusy {
						t.Errorf("of kind %d, phase %d and %q, case %d: it is %v, %d", kind, phase, value, i, got, e)
					}
				}
			}
		}
	}
	n := with(in(5, 4))
	n.Life, n.Clock, n.Side.On = -1, 999, true
	if got, e := Tell(n, "new"); e != api.OK || got.Mach.Phase != 9 || got.Life != -1 || !got.Side.On {
		t.Errorf("it is %v, %d", got, e)
	}
}

// P21.3
func TestWrite(t *testing.T) {
	for _, kind := range kinds {
		for _, phase := range phases {
			n := with(in(kind, phase))
			s, e := Write(2, n, "new")
			if phase != 4 {
				if s != "" || e != api.ErrNone {
					t.Errorf("of kind %d and phase %d it is %q, %d", kind, phase, s, e)
				}
				continue
			}
			if r, is := wire.Asked(s); !is || e != api.OK || !reflect.DeepEqual(r, api.Req{Kind: 8, Who: 18, Token: 4, Value: "new"}) {
				t.Errorf("of kind %d and phase %d it is %v, %d", kind, phase, r, e)
			}
		}
	}
	n := with(in(1, 4))
	for i, c := range []struct {
		i      int
		change func(*api.Node)
		value  string
		e      api.Errno
	}{
		{0, func(*api.Node) {}, "", 0}, {15, func(*api.Node) {}, long(20), 0}, {2, func(n *api.Node) { n.Main.On, n.Clock, n.Mach.Lease = true, 999, 0 }, "\x00\xff", 0},
		{2, func(n *api.Node) { n.Mach.Token = 0 }, "", 0}, {2, func(n *api.Node) { n.Mach.Token = maxNumber }, "", 0}, {15, func(n *api.Node) { n.Life = 1<<36 - 1 }, "", 0},
		{2, func(*api.Node) {}, long(21), 1}, {2, func(n *api.Node) { n.Mach.Token = -1 }, "", 1}, {2, func(n *api.Node) { n.Mach.Token = maxNumber + 1 }, "", 1},
		{2, func(n *api.Node) { n.Mach.Phase = 9 }, long(21), 5}, {2, func(n *api.Node) { n.Mach.Phase = 5 }, "", 5},
		{2, func(n *api.Node) { n.Down = true }, long(21), 11}, {2, func(n *api.Node) { n.Paused = true }, long(21), 11}, {16, func(*api.Node) {}, long(21), 11}, {-1, func(*api.Node) {}, "", 11},
		{2, func(n *api.Node) { n.Life = -1 }, "", 11}, {2, func(n *api.Node) { n.Life, n.Mach.Phase = 1<<36, 5 }, "", 11}, {2, func(n *api.Node) { n.Down, n.Mach.Phase = true, 5 }, "", 11}, {2, func(n *api.Node) { n.Paused, n.Mach.Phase = true, 5 }, "", 11},
	} {
		n := n
		c.change(&n)
		s, e := Write(c.i, n, c.value)
		r, is := wire.Asked(s)
		if e != c.e || is != (e == 0) || !is && s != "" {
			t.Errorf("case %d: it is %q, %d", i, s, e)
		}
		if is && !reflect.DeepEqual(r, api.Req{Kind: 8, Who: Who(c.i, n), Token: n.Mach.Token, Value: c.value}) {
			t.Errorf("case %d: it is %v", i, r)
		}
	}
}

// P21.4: who stands still does nothing, whatever there is to be done.
func TestStepOfWhoStandsStill(t *testing.T) {
	n := with(in(1, 2))
	n.Side = call.Begin(request(), 5)
	over := n
	over.Clock = 999
	for _, n := range []api.Node{n, over} {
		down, paused, dead := n, n, n
		down.Down, paused.Paused, dead.Life = true, true, -1
		for i, c := range []struct {
			i int
			n api.Node
		}{{2, down}, {2, paused}, {2, dead}, {16, n}, {-1, n}, {math.MaxInt, n}} {
			if got, out := Step(c.i, c.n); !same(got, c.n) || len(out) != 0 {
				t.Errorf("case %d: it is %v, %q", i, got, out)
			}
		}
	}
}

// P21.4: the session is over.
func TestStepWhenTheSessionIsOver(t *testing.T) {
	for _, kind := range kinds {
		for _, phase := range phases {
			for _, lease := range []int{0, 2, 3, -1} {
				n := with(in(kind, phase))
				n.Mach.Lease, n.Clock = lease, 276
				n.Main, n.Side = call.Begin(request(), 270), call.Begin(sess.Keeps(n.Sess), 260)
				// Both have been sent, so that nothing is sent now.
				n.Main.Next, n.Side.Next = 300, 300
				want := n
				want.Sess, want.Side = api.Sess{}, api.Call{}
				if kind >= 1 && kind <= 6 && slices.Contains(active, phase) && lease != 0 {
					want.Mach.Phase, want.Mach.Token, want.Mach.Err, want.Main = 8, 0, 12, api.Call{}
				}
				if got, out := Step(2, n); !same(got, want) || len(out) != 0 {
					t.Errorf("of kind %d, phase %d and lease %d it is %v, %q", kind, phase, lease, got, out)
				}
				// While it lasts, nothing is over.
				n.Clock = 275
				if got, out := Step(2, n); !same(got, n) || len(out) != 0 {
					t.Errorf("of kind %d, phase %d and lease %d it is %v, %q", kind, phase, lease, got, out)
				}
				// Nor is it, if there is none.
				n.Clock, n.Sess.Lease = 276, 0
				if got, out := Step(2, n); !same(got, n) || len(out) != 0 {
					t.Errorf("of kind %d, phase %d and lease %d it is %v, %q", kind, phase, lease, got, out)
				}
			}
		}
	}
}

// P21.4: who loses one session asks for another one at once, if it has laid nothing yet.
func TestStepAsksForAnotherSession(t *testing.T) {
	m, _ := lock.Start(1, "x", 0, "")
	n := with(m)
	n.Clock = 276
	got, out := Step(2, n)
	r := asked(t, out)
	want := api.Req{Kind: 4, Who: 18, Seq: 8, Once: true, TTL: 200}
	if !reflect.DeepEqual(r, want) || got.Sess.Lease != 0 || got.Mach != m || got.Seq != 8 {
		t.Errorf("it asks %v: %v", r, got)
	}
	if !reflect.DeepEqual(got.Main, api.Call{On: true, Req: want, Sent: 276, Next: 292, Tries: 1}) {
		t.Errorf("it waits for %v", got.Main)
	}
	// Who has laid something is lost by it, and asks for nothing.
	n.Mach = in(1, 2)
	if got, out := Step(2, n); len(out) != 0 || got.Seq != 7 || got.Main.On || got.Mach.Err != api.ErrLost {
		t.Errorf("it is %v, %q", got, out)
	}
}

// P21.4: a recipe without a lease asks for one, or joins that which there is.
func TestStepFindsALease(t *testing.T) {
	keys := map[int]string{1: "m/x/0000000003", 2: "l/x/0000000003", 3: "l/x/0000000003", 4: "s/x/0000000003", 5: "e/x/0000000003", 6: "p/x/0000000003"}
	for kind := 1; kind <= 6; kind++ {
		n := with(api.Machine{Kind: kind, Name: "x", N: 2, Value: "v", Phase: 1})
		got, out := Step(2, n)
		r := asked(t, out)
		want := n
		want.Seq, want.Mach.Lease, want.Mach.Key = 8, 3, keys[kind]
		want.Main = api.Call{On: true, Req: api.Req{Kind: 2, Who: 18, Seq: 8, Once: true, Txn: txn.Put(keys[kind], "v", 3)}, Sent: 100, Next: 116, Tries: 1}
		if !same(got, want) || !reflect.DeepEqual(r, want.Main.Req) {
			t.Errorf("of kind %d it is %v, and asks %v", kind, got, r)
		}
		n.Sess = api.Sess{}
		got, out = Step(2, n)
		r = asked(t, out)
		want = n
		want.Seq, want.Main = 8, api.Call{On: true, Req: api.Req{Kind: 4, Who: 18, Seq: 8, Once: true, TTL: 200}, Sent: 100, Next: 116, Tries: 1}
		if !same(got, want) || !reflect.DeepEqual(r, want.Main.Req) {
			t.Errorf("of kind %d it is %v, and asks %v", kind, got, r)
		}
		// Not while it waits for a reply.
		n.Main = call.Begin(request(), 100)
		n.Main.Next = 116
		if got, out := Step(2, n); !same(got, n) || len(out) != 0 {
			t.Errorf("of kind %d it is %v, %q", kind, got, out)
		}
	}
	// A recipe in another phase, of another kind, or that has a lease, neither asks for one nor joins one.
	for _, lease := range []int{0, 3} {
		for _, kind := range kinds {
			for _, phase := range phases {
				n := with(api.Machine{Kind: kind, Name: "x", Phase: phase})
				n.Sess.Lease = lease
				if kind >= 1 && kind <= 6 && phase == 1 {
					n.Mach.Lease = 5
				}
				got, out := Step(2, n)
				if got.Mach != n.Mach {
					t.Errorf("of kind %d and phase %d it is %v", kind, phase, got.Mach)
				}
				for _, s := range out {
					if r, _ := wire.Asked(s); r.Kind == api.Grant {
						t.Errorf("of kind %d and phase %d it asks for a lease", kind, phase)
					}
				}
			}
		}
	}
}

// P21.4: a lease that can't be joined, or a name that is none, is waited with.
func TestStepWithWhatMayNotBe(t *testing.T) {
	for i, n := range []api.Node{
		{Life: 1, Sess: api.Sess{Lease: -1, Until: 9, Keep: 5}, Mach: api.Machine{Kind: 1, Name: "x", Phase: 1}},
		{Life: 1, Sess: api.Sess{Lease: 3, Until: 9, Keep: 5}, Mach: api.Machine{Kind: 1, Name: "X", Phase: 1}},
		{Life: 1, Sess: api.Sess{Lease: maxNumber + 1, Until: 9, Keep: 5}, Mach: api.Machine{Kind: 6, Name: "x", N: 1, Phase: 1}},
	} {
		if got, out := Step(2, n); !same(got, n) || len(out) != 0 {
			t.Errorf("case %d: it is %v, %q", i, got, out)
		}
	}
	// A request that may not be asked is begun, and never sent.
	n := with(in(5, 9))
	n.Mach.Value = long(21)
	got, out := Step(2, n)
	if len(out) != 0 || !got.Main.On || got.Main.Tries != 0 || got.Main.Req.Seq != 8 || got.Seq != 8 {
		t.Errorf("it is %v, %q", got, out)
	}
	// So is one at a time that may not be.
	n = with(in(8, 2))
	n.Clock, n.Sess = -1, api.Sess{}
	if got, out := Step(2, n); len(out) != 0 || !got.Main.On || got.Main.Sent != -1 || got.Main.Tries != 0 {
		t.Errorf("it is %v, %q", got, out)
	}
}

// P21.4: what the recipe wants is told by party, by queue and by lock.
func TestStepAsksWhatItsRecipeWants(t *testing.T) {
	gone := func(k string) api.Txn { return api.Txn{Then: []api.Mut{{Gone: true, Key: k}}} }
	for i, c := range []struct {
		kind, phase int
		r           api.Req
	}{
		{1, 1, api.Req{Kind: 2, Once: true, Txn: txn.Put("k", "v", 3)}}, {1, 2, api.Req{Kind: 1, Key: "m/x/"}}, {3, 3, api.Req{Kind: 3, Key: "l/x/", Rev: 6}}, {4, 5, api.Req{Kind: 2, Once: true, Txn: gone("k")}},
		{5, 9, api.Req{Kind: 2, Once: true, Txn: api.Txn{If: []api.Cmp{txn.Made("k", 4)}, Then: []api.Mut{{Key: "k", Value: "v", Lease: 3}}}}}, {2, 2, api.Req{Kind: 1, Key: "l/x/"}},
		{6, 1, api.Req{Kind: 2, Once: true, Txn: txn.Put("k", "v", 3)}}, {6, 2, api.Req{Kind: 1, Key: "p/x/"}}, {6, 3, api.Req{Kind: 3, Key: "p/x/", Rev: 6}}, {6, 5, api.Req{Kind: 2, Once: true, Txn: gone("k")}}, {6, 6, api.Req{Kind: 1, Key: "p/x/"}},
		{6, 9, api.Req{Kind: 2, Once: true, Txn: txn.Put("p/x/open", "", 0)}},
		{7, 1, api.Req{Kind: 2, Once: true, Txn: txn.Put("k", "v", 0)}}, {8, 2, api.Req{Kind: 1, Key: "q/x/"}}, {8, 3, api.Req{Kind: 3, Key: "q/x/", Rev: 6}}, {8, 10, api.Req{Kind: 2, Once: true, Txn: txn.Drop("k", 4)}},
		// Of queues neither a session nor a lease is asked, but who has one keeps it.
		{7, 2, api.Req{}}, {8, 1, api.Req{}}, {1, 4, api.Req{}}, {6, 4, api.Req{}}, {1, 6, api.Req{}}, {1, 7, api.Req{}}, {6, 8, api.Req{}}, {8, 7, api.Req{}}, {1, 0, api.Req{}}, {0, 2, api.Req{}}, {9, 2, api.Req{}},
	} {
		n := with(in(c.kind, c.phase))
		got, out := Step(2, n)
		if c.r.Kind == 0 {
			if !same(got, n) || len(out) != 0 {
				t.Errorf("case %d: it is %v, %q", i, got, out)
			}
			continue
		}
		r := asked(t, out)
		c.r.Who, c.r.Seq = 18, 8
		if !reflect.DeepEqual(r, c.r) || !reflect.DeepEqual(got.Main, api.Call{On: true, Req: c.r, Sent: 100, Next: 116, Tries: 1}) || got.Seq != 8 || got.Mach != n.Mach {
			t.Errorf("case %d: it is %v, and asks %v", i, got, r)
		}
		// Not while it waits for a reply.
		n.Main = call.Begin(request(), 90)
		n.Main.Next = 101
		if got, out := Step(2, n); !same(got, n) || len(out) != 0 {
			t.Errorf("case %d: it is %v, %q", i, got, out)
		}
	}
}

// P21.4: what is due is sent; the recipe's ahead of the session's, and numbered so.
func TestStepSends(t *testing.T) {
	n := with(in(1, 2))
	n.Clock = 188
	got, out := Step(2, n)
	if len(out) != 2 {
		t.Fatalf("it sent %q", out)
	}
	first, _ := wire.Asked(out[0])
	second, _ := wire.Asked(out[1])
	if !reflect.DeepEqual(first, api.Req{Kind: 1, Who: 18, Seq: 8, Key: "m/x/"}) || !reflect.DeepEqual(second, api.Req{Kind: 5, Who: 18, Seq: 9, Lease: 3}) {
		t.Errorf("it sent %v and %v", first, second)
	}
	want := n
	want.Seq = 9
	want.Main = api.Call{On: true, Req: first, Sent: 188, Next: 204, Tries: 1}
	want.Side = api.Call{On: true, Req: second, Sent: 188, Next: 204, Tries: 1}
	if !same(got, want) {
		t.Errorf("it is %v", got)
	}
	// Not again, till they are due; then the same, in the same order.
	got.Clock = 203
	if again, none := Step(2, got); !same(again, got) || len(none) != 0 {
		t.Errorf("it is %v, %q", again, none)
	}
	got.Clock = 204
	again, twice := Step(2, got)
	want.Clock = 204
	want.Main.Next, want.Main.Tries, want.Side.Next, want.Side.Tries = 236, 2, 236, 2
	if !same(again, want) || !slices.Equal(twice, out) {
		t.Errorf("it is %v, %q", again, twice)
	}
	// One alone may be due.
	again.Clock, again.Main.Next = 236, 237
	if _, one := Step(2, again); len(one) != 1 || one[0] != out[1] {
		t.Errorf("it sent %q", one)
	}
	again.Main.Next, again.Side.Next = 236, 237
	if _, one := Step(2, again); len(one) != 1 || one[0] != out[0] {
		t.Errorf("it sent %q", one)
	}
}

// P21.4: a session is kept when it is due, whatever the recipe is, and asked for it once at a time.
func TestStepKeepsTheSession(t *testing.T) {
	for _, m := range []api.Machine{{}, in(1, 4), in(1, 8), in(8, 7), in(0, 0)} {
		n := with(m)
		n.Clock = 187
		if got, out := Step(2, n); !same(got, n) || len(out) != 0 {
			t.Errorf("of %v it is %v, %q", m, got, out)
		}
		for _, now := range []int{188, 200, 275} {
			n.Clock = now
			got, out := Step(2, n)
			want := n
			want.Seq = 8
			want.Side = api.Call{On: true, Req: api.Req{Kind: 5, Who: 18, Seq: 8, Lease: 3}, Sent: now, Next: now + 16, Tries: 1}
			if r := asked(t, out); !same(got, want) || !reflect.DeepEqual(r, want.Side.Req) {
				t.Errorf("of %v at %d it is %v, and asks %v", m, now, got, r)
			}
		}
		n.Clock, n.Side = 200, api.Call{On: true, Req: request(), Next: 201}
		if got, out := Step(2, n); !same(got, n) || len(out) != 0 {
			t.Errorf("of %v it is %v, %q", m, got, out)
		}
	}
}

// P21.5: what is nobody's changes nothing.
func TestGetOfWhatIsNobodys(t *testing.T) {
	n := with(in(1, 2))
	n.Main, n.Side = call.Begin(api.Req{Kind: 1, Who: 18, Seq: 8, Key: "m/x/"}, 100), call.Begin(api.Req{Kind: 5, Who: 18, Seq: 9, Lease: 3}, 100)
	mine := reply(api.Reply{Who: 18, Seq: 8})
	ask, _ := wire.Ask(n.Main.Req)
	for i, s := range []string{"", "x", ask, mine + "x", mine[:len(mine)-1], reply(api.Reply{Who: 18, Seq: 7}), reply(api.Reply{Who: 18, Seq: 10}), reply(api.Reply{Who: 2, Seq: 8}), reply(api.Reply{Who: 34, Seq: 9}), reply(api.Reply{})} {
		if got := Get(2, n, s); !same(got, n) {
			t.Errorf("case %d: it is %v", i, got)
		}
	}
	for _, s := range []string{mine, reply(api.Reply{Code: api.ErrLease, Who: 18, Seq: 9})} {
		down, dead := n, n
		down.Down, dead.Life = true, -1
		for i, c := range []struct {
			i int
			n api.Node
		}{{2, down}, {2, dead}, {16, n}, {-1, n}} {
			if got := Get(c.i, c.n, s); !same(got, c.n) {
				t.Errorf("case %d: it is %v", i, got)
			}
		}
		// Who is paused is not asked here.
		paused := n
		paused.Paused = true
		if got := Get(2, paused, s); same(got, paused) || !got.Paused {
			t.Errorf("it is %v", got)
		}
		// A call that is no longer on gets nothing.
		off := n
		off.Main.On, off.Side.On = false, false
		if got := Get(2, off, s); !same(got, off) {
			t.Errorf("it is %v", got)
		}
	}
	// What is no reply is not taken for one of nobody's first request.
	first := with(in(1, 2))
	first.Main, first.Side = call.Begin(api.Req{Kind: 1}, 100), call.Begin(api.Req{Kind: 5}, 100)
	for _, s := range []string{"", "x", mine[:1], ask} {
		if got := Get(2, first, s); !same(got, first) {
			t.Errorf("of %q it is %v", s, got)
		}
	}
	// The number of the client itself is not asked, but that there is such a one.
	if got := Get(5, n, mine); got.Main.On {
		t.Errorf("it is %v", got)
	}
}

// P21.5: what the server tells of a Grant.
func TestGetAGrant(t *testing.T) {
	grant := api.Req{Kind: 4, Who: 18, Seq: 8, Once: true, TTL: 200}
	for _, kind := range kinds {
		for _, phase := range phases {
			n := api.Node{Life: 1, Clock: 120, Seq: 8, Sess: api.Sess{Lease: 9, TTL: 5, Until: 7, Keep: 6}, Main: call.Begin(grant, 100), Side: call.Begin(request(), 90), Mach: in(kind, phase)}
			on := slices.Contains(active, phase)
			for i, c := range []struct {
				p   api.Reply
				s   api.Sess
				err api.Errno
			}{
				{api.Reply{Lease: 4, TTL: 200, Rev: 9}, api.Sess{Lease: 4, TTL: 200, Until: 276, Keep: 188}, 0},
				{api.Reply{Lease: 4, TTL: 34, Yes: true}, api.Sess{Lease: 4, TTL: 34, Until: 130, Keep: 115}, 0},
				{api.Reply{Lease: 4, TTL: 2}, api.Sess{Lease: 4, TTL: 2, Until: 101, Keep: 100}, 0},
				{api.Reply{Lease: 4, TTL: 1}, api.Sess{}, 12}, {api.Reply{Lease: 4, TTL: 1001}, api.Sess{}, 12}, {api.Reply{Lease: 0, TTL: 200}, api.Sess{}, 12}, {api.Reply{}, api.Sess{}, 12},
				{api.Reply{Code: 4}, api.Sess{}, 4}, {api.Reply{Code: 6}, api.Sess{}, 6}, {api.Reply{Code: 7, Lease: 4, TTL: 200}, api.Sess{}, 7}, {api.Reply{Code: 14}, api.Sess{}, 14}, {api.Reply{Code: 12}, api.Sess{}, 12},
			} {
				c.p.Who, c.p.Seq = 18, 8
				want := n
				want.Main, want.Sess = api.Call{}, c.s
				if on && c.err != 0 {
					want.Mach.Phase, want.Mach.Token, want.Mach.Err = 8, 0, c.err
				}
				if got := Get(2, n, reply(c.p)); !same(got, want) {
					t.Errorf("of kind %d, phase %d and case %d it is %v", kind, phase, i, got)
				}
			}
			// When it was begun counts, not when it was sent last; also where that may not be.
			n.Main.Sent = -1
			if got := Get(2, n, reply(api.Reply{Who: 18, Seq: 8, Lease: 4, TTL: 200})); got.Sess.Lease != 0 || got.Main.On || (got.Mach.Err == api.ErrLost) != on {
				t.Errorf("of kind %d and phase %d it is %v", kind, phase, got)
			}
		}
	}
}

// P21.5: what comes when the session is over is not gone on by.
func TestGetWhenTheSessionIsOver(t *testing.T) {
	for _, kind := range kinds {
		for _, phase := range phases {
			for i, change := range []func(*api.Node){func(n *api.Node) { n.Clock = 276 }, func(n *api.Node) { n.Sess.Lease = 0 }, func(n *api.Node) { n.Sess = api.Sess{} }, func(n *api.Node) { n.Clock, n.Mach.Lease = 276, 0 }} {
				n := with(in(kind, phase))
				n.Main, n.Side = call.Begin(request(), 100), call.Begin(sess.Keeps(n.Sess), 200)
				change(&n)
				want := n
				want.Main = api.Call{}
				switch needs := kind >= 1 && kind <= 6 && slices.Contains(active, phase); {
				case needs && n.Mach.Lease != 0:
					want.Mach.Phase, want.Mach.Token, want.Mach.Err = 8, 0, 12
					fallthrough
				case needs:
					want.Sess, want.Side = api.Sess{}, api.Call{}
				case kind == 7 && phase == 1:
					want.Mach.Phase, want.Mach.Token = 7, 9
				case kind == 8 && phase == 2:
					want.Mach.Phase, want.Mach.Rev = 3, 10
				case kind == 8 && phase == 3:
					want.Mach.Rev = 9
				case kind == 8 && phase == 10:
					want.Mach.Phase = 7
				default:
					// Of a kind that is none a lock's machine goes on, for it goes by its phase alone.
					want.Mach = lock.Told(n.Mach, api.Reply{Yes: true, Rev: 9})
					if kind == 7 || kind == 8 {
						want.Mach = n.Mach
					}
				}
				if got := Get(2, n, reply(api.Reply{Who: 18, Seq: 7, Yes: true, Rev: 9})); !same(got, want) {
					t.Errorf("of kind %d, phase %d and case %d it is %v, and not %v", kind, phase, i, got, want)
				}
			}
		}
	}
}

// P21.5: the recipe goes on by what party, queue and lock tell.
func TestGetGoesOn(t *testing.T) {
	k := []api.KV{{Key: "k", Value: "z", Create: 5}}
	for i, c := range []struct {
		kind, phase int
		p           api.Reply
		change      func(*api.Machine)
	}{
		{1, 1, api.Reply{Yes: true}, func(m *api.Machine) { m.Phase = 2 }}, {1, 1, api.Reply{}, func(m *api.Machine) { m.Phase, m.Err, m.Token = 8, 11, 0 }},
		{1, 2, api.Reply{KVs: k}, func(m *api.Machine) { m.Phase, m.Token = 4, 5 }}, {3, 3, api.Reply{Rev: 9}, func(m *api.Machine) { m.Rev = 9 }}, {3, 3, api.Reply{Code: 9}, func(m *api.Machine) { m.Phase = 2 }},
		{4, 5, api.Reply{}, func(m *api.Machine) { m.Phase, m.Token = 7, 0 }}, {5, 9, api.Reply{Yes: true}, func(m *api.Machine) { m.Phase = 4 }}, {5, 9, api.Reply{}, func(m *api.Machine) { m.Phase, m.Err, m.Token = 8, 12, 0 }},
		{6, 5, api.Reply{}, func(m *api.Machine) { m.Phase, m.Token = 6, 0 }}, {6, 6, api.Reply{}, func(m *api.Machine) { m.Phase = 7 }}, {6, 9, api.Reply{}, func(m *api.Machine) { m.Phase = 4 }},
		{6, 2, api.Reply{KVs: k, Rev: 8}, func(m *api.Machine) { m.Phase, m.Token, m.Rev = 3, 5, 9 }},
		{7, 1, api.Reply{Yes: true, Rev: 9}, func(m *api.Machine) { m.Phase, m.Token = 7, 9 }}, {7, 1, api.Reply{Code: 6}, func(m *api.Machine) { m.Phase, m.Err, m.Token = 8, 6, 0 }},
		{8, 2, api.Reply{KVs: k}, func(m *api.Machine) { m.Phase, m.Token, m.Value = 10, 5, "z" }}, {8, 10, api.Reply{Yes: true}, func(m *api.Machine) { m.Phase = 7 }},
		{1, 2, api.Reply{Code: 6}, func(m *api.Machine) { m.Phase, m.Err, m.Token = 8, 12, 0 }}, {6, 1, api.Reply{Code: 4}, func(m *api.Machine) { m.Phase, m.Err, m.Token = 8, 4, 0 }},
		// Who wants nothing stays as it is.
		{1, 4, api.Reply{Code: 6}, func(*api.Machine) {}}, {8, 7, api.Reply{Code: 6}, func(*api.Machine) {}}, {6, 8, api.Reply{Yes: true}, func(*api.Machine) {}},
	} {
		n := with(in(c.kind, c.phase))
		n.Main, n.Side = call.Begin(request(), 100), call.Begin(sess.Keeps(n.Sess), 90)
		n.Clock = 275
		want := n
		want.Main = api.Call{}
		c.change(&want.Mach)
		c.p.Who, c.p.Seq = 18, 7
		if got := Get(2, n, reply(c.p)); !same(got, want) {
			t.Errorf("case %d: it is %v", i, got)
		}
	}
}

// P21.5: what the server tells of a Keep.
func TestGetAKeep(t *testing.T) {
	for _, kind := range kinds {
		for _, phase := range phases {
			n := with(in(kind, phase))
			n.Clock, n.Main, n.Side = 200, call.Begin(request(), 195), call.Begin(api.Req{Kind: 5, Who: 18, Seq: 6, Lease: 3}, 190)
			n.Side.Next, n.Side.Tries = 222, 2
			for i, c := range []struct {
				p api.Reply
				s api.Sess
			}{
				{api.Reply{Lease: 3, TTL: 200}, api.Sess{Lease: 3, TTL: 200, Until: 366, Keep: 278}}, {api.Reply{Lease: 3, TTL: 5}, api.Sess{Lease: 3, TTL: 200, Until: 366, Keep: 278}},
				{api.Reply{Lease: 4, TTL: 200}, n.Sess}, {api.Reply{Code: 4, Lease: 3}, n.Sess}, {api.Reply{Code: 12, Lease: 3}, n.Sess}, {api.Reply{Code: 6, Lease: 3}, api.Sess{}}, {api.Reply{Code: 6}, api.Sess{}},
			} {
				c.p.Who, c.p.Seq = 18, 6
				want := n
				want.Side, want.Sess = api.Call{}, c.s
				if c.s.Lease == 0 && kind >= 1 && kind <= 6 && slices.Contains(active, phase) {
					want.Main, want.Mach.Phase, want.Mach.Token, want.Mach.Err = api.Call{}, 8, 0, 12
				}
				if got := Get(2, n, reply(c.p)); !same(got, want) {
					t.Errorf("of kind %d, phase %d and case %d it is %v", kind, phase, i, got)
				}
			}
			// Who has laid nothing by it goes on without it.
			n.Mach.Lease = 0
			if got := Get(2, n, reply(api.Reply{Code: 6, Who: 18, Seq: 6})); got.Mach != n.Mach || !got.Main.On || got.Sess != (api.Sess{}) || got.Side.On {
				t.Errorf("of kind %d and phase %d it is %v", kind, phase, got)
			}
		}
	}
	// It may be alive no longer when it is told: what counts is when it was begun.
	n := with(in(1, 4))
	n.Clock, n.Side = 300, call.Begin(api.Req{Kind: 5, Who: 18, Seq: 6, Lease: 3}, 190)
	if got := Get(2, n, reply(api.Reply{Who: 18, Seq: 6, Lease: 3})); got.Sess.Until != 366 || !Holds(got) {
		t.Errorf("it is %v", got)
	}
	// A session that has no lease is over, though another code changes nothing of it; so is one that is kept, of none.
	n.Sess.Lease, n.Main.On = 0, true
	for _, code := range []api.Errno{api.OK, api.ErrFull} {
		if got := Get(2, n, reply(api.Reply{Code: code, Who: 18, Seq: 6})); got.Sess != (api.Sess{}) || got.Main.On || got.Mach.Err != api.ErrLost {
			t.Errorf("it is %v", got)
		}
	}
}

// P21.5: where both have asked the same, the recipe's call gets it.
func TestGetIsMainsFirst(t *testing.T) {
	n := with(in(1, 5))
	n.Main, n.Side = call.Begin(request(), 100), call.Begin(request(), 100)
	if got := Get(2, n, reply(api.Reply{Who: 18, Seq: 7})); got.Main.On || !got.Side.On || got.Mach.Phase != 7 {
		t.Errorf("it is %v", got)
	}
	// A Grant is one by what was asked, not by what is told; and that of Side is none.
	n.Main.On = false
	n.Side = call.Begin(api.Req{Kind: 4, Who: 18, Seq: 8}, 100)
	if got := Get(2, n, reply(api.Reply{Who: 18, Seq: 8, Lease: 4, TTL: 200})); got.Sess != n.Sess || got.Side.On || got.Mach != n.Mach {
		t.Errorf("it is %v", got)
	}
}

// P21.6
func TestCrash(t *testing.T) {
	n := with(in(1, 4))
	n.Main, n.Side = call.Begin(request(), 5), call.Begin(request(), 5)
	for _, down := range []bool{false, true} {
		for _, paused := range []bool{false, true} {
			for _, life := range []int{0, 5, -1, math.MaxInt} {
				n.Down, n.Paused, n.Life = down, paused, life
				if got := Crash(n); !same(got, api.Node{Life: life, Clock: 100, Down: true}) {
					t.Errorf("of life %d it is %v", life, got)
				}
				want := n
				if down {
					// One that is down has nothing; but whatever it has is gone.
					want = api.Node{Life: life + 1, Clock: 100}
				}
				if got := Restart(n); !same(got, want) {
					t.Errorf("of life %d it is %v", life, got)
				}
			}
		}
	}
}

// pair is a client and a server, and all that was sent between them.
type pair struct {
	t      *testing.T
	random *rand.Rand
	i      int
	n      api.Node
	srv    api.Server
	asks   []string
	tells  []string
	begun  map[[2]int]string
}

// step lets the client go on: what it sends may be asked, is its own, and no other one has that number.
func (p *pair) step() {
	was := p.n
	n, out := Step(p.i, was)
	p.n = n
	for _, body := range out {
		r, is := wire.Asked(body)
		if !is || r.Who != Who(p.i, n) || r.Seq < 1 || r.Seq > n.Seq {
			p.t.Fatalf("it sends %v", r)
		}
		at := [2]int{r.Who, r.Seq}
		if old, is := p.begun[at]; is && (old != body || r.Seq > was.Seq) {
			p.t.Fatalf("it sends %q as %v, ahead of that %q", body, at, old)
		}
		p.begun[at] = body
	}
	p.asks = append(p.asks, out...)
}

// ask lets the server do one of all that was ever sent.
func (p *pair) ask() {
	if len(p.asks) == 0 {
		return
	}
	at := p.random.Intn(len(p.asks))
	if p.random.Intn(4) > 0 {
		at = max(len(p.asks)-1-p.random.Intn(3), 0)
	}
	r, _ := wire.Asked(p.asks[at])
	srv, told := server.Do(p.srv, r)
	p.srv = srv
	p.tells = append(p.tells, reply(told))
}

// tell lets the client be told one of all that was ever told, or something else.
func (p *pair) tell() {
	if len(p.tells) == 0 {
		return
	}
	body := p.tells[p.random.Intn(len(p.tells))]
	switch p.random.Intn(12) {
	case 0:
		body = reply(api.Reply{Code: api.Errno(p.random.Intn(15)), Who: Who(p.i, p.n), Seq: p.n.Seq})
	case 1:
		body = body[:p.random.Intn(len(body))]
	case 2, 3, 4, 5, 6, 7:
		body = p.tells[len(p.tells)-1]
	}
	p.n = Get(p.i, p.n, body)
}

// other lets something else happen.
func (p *pair) other() {
	m := api.Machine{Kind: 1 + p.random.Intn(8), Name: "x", N: 1 + p.random.Intn(2), Value: "v"}
	switch p.random.Intn(24) {
	case 0, 1, 2, 3, 4, 5, 6, 7:
		p.n, _ = Start(p.i, p.n, m)
	case 8, 9, 10:
		p.n, _ = Release(p.n)
	case 11, 12:
		p.n, _ = Tell(p.n, "new")
	case 13:
		p.n = Crash(p.n)
	case 14, 15:
		p.n = Restart(p.n)
	case 16:
		p.n.Paused = true
	case 17, 18:
		p.n.Paused = false
	case 19:
		p.srv, _ = server.Do(p.srv, api.Req{Kind: api.Compact, Rev: p.srv.Store.Rev})
	case 20:
		p.srv, _ = server.Do(p.srv, api.Req{Kind: api.Revoke, Lease: p.n.Sess.Lease})
	default:
		by := 15 + p.random.Intn(3)
		p.n.Clock, p.srv = p.n.Clock+by, server.Tick(p.srv, 16)
	}
}

// P21.7
func TestWhatFollows(t *testing.T) {
	held, ended := map[int]int{}, map[api.Errno]int{}
	for seed := range 1600 {
		random := rand.New(rand.NewSource(int64(seed)))
		p := pair{t: t, random: random, i: seed % 16, n: api.Node{Life: seed % 3}, srv: server.New(), begun: map[[2]int]string{}}
		for range 500 {
			was := p.n
			switch random.Intn(8) {
			case 0, 1:
				p.step()
			case 2, 3:
				p.ask()
			case 4, 5, 6:
				p.tell()
			case 7:
				p.other()
			}
			if Holds(p.n) {
				if s := p.n.Sess; s.Lease == 0 || p.n.Clock >= s.Until || s.Lease != p.n.Mach.Lease || p.n.Down {
					t.Fatalf("of seed %d it holds: %v", seed, p.n)
				}
				if !Holds(was) {
					held[p.n.Mach.Kind]++
				}
			}
			if lock.Active(was.Mach) && !lock.Active(p.n.Mach) && p.n.Mach.Kind != 0 {
				ended[p.n.Mach.Err]++
			}
			if p.n.Seq < was.Seq && p.n.Life == was.Life && !p.n.Down {
				t.Fatalf("of seed %d its numbers fell: %v", seed, p.n)
			}
		}
	}
	for kind := 1; kind <= 6; kind++ {
		if held[kind] < 20 {
			t.Errorf("of kind %d only %d held", kind, held[kind])
		}
	}
	for _, e := range []api.Errno{api.OK, api.ErrLost} {
		if ended[e] < 50 {
			t.Errorf("of %d only %d ended", e, ended[e])
		}
	}
}

// round lets the client go on, the server do what it sent, and the replies come; the kinds of what was asked.
func (p *pair) round() []int {
	n, out := Step(p.i, p.n)
	p.n = n
	var asked []int
	for _, body := range out {
		r, _ := wire.Asked(body)
		asked = append(asked, r.Kind)
		srv, told := server.Do(p.srv, r)
		p.srv = srv
		p.n = Get(p.i, p.n, reply(told))
	}
	return asked
}

// started is a client that starts a recipe, beside a server.
func started(t *testing.T, srv api.Server, i int, m api.Machine) *pair {
	t.Helper()
	n, e := Start(i, api.Node{Clock: 100}, m)
	if e != api.OK {
		t.Fatalf("of %v it is %d", m, e)
	}
	return &pair{t: t, i: i, n: n, srv: srv}
}

// Example 1: it sends a Grant; told, a Put; told, a Range; and holds.
func TestAMutexFromTheBeginning(t *testing.T) {
	p := started(t, server.New(), 2, api.Machine{Kind: api.Mutex, Name: "x"})
	var asked []int
	for range 5 {
		asked = append(asked, p.round()...)
	}
	if !slices.Equal(asked, []int{api.Grant, api.Change, api.Range}) || !Holds(p.n) || p.n.Mach.Token != 1 {
		t.Errorf("it asked %v, and is %v", asked, p.n)
	}
	// Kept in time, it holds for long; and then it lets.
	for range 100 {
		p.n.Clock += 16
		p.srv = server.Tick(p.srv, 16)
		p.round()
		if !Holds(p.n) {
			t.Fatalf("at %d it holds no more: %v", p.n.Clock, p.n)
		}
	}
	p.n, _ = Release(p.n)
	asked = p.round()
	if !slices.Equal(asked, []int{api.Change}) || p.n.Mach.Phase != api.Over || Holds(p.n) || len(p.srv.Leases.L) != 1 {
		t.Errorf("it asked %v, and is %v", asked, p.n)
	}
	// The next one joins the lease that there is.
	p.n, _ = Start(2, p.n, api.Machine{Kind: api.Leader, Name: "x", Value: "v"})
	asked = nil
	for range 3 {
		asked = append(asked, p.round()...)
	}
	if !slices.Equal(asked, []int{api.Change, api.Range}) || !Holds(p.n) || p.n.Mach.Lease != 1 {
		t.Errorf("it asked %v, and is %v", asked, p.n)
	}
	p.n, _ = Tell(p.n, "new")
	if !Holds(p.n) || !slices.Equal(p.round(), []int{api.Change}) || p.n.Mach.Phase != api.Held || !Holds(p.n) {
		t.Errorf("it is %v", p.n)
	}
}

// P21.4 and P21.5: of each kind one comes to what it wants, alone.
func TestEachKindComesToItsEnd(t *testing.T) {
	for kind, want := range map[int][]int{
		api.Mutex: {4, 2, 1}, api.Reader: {4, 2, 1}, api.Writer: {4, 2, 1}, api.Permit: {4, 2, 1}, api.Leader: {4, 2, 1}, api.Party: {4, 2, 1, 2},
		api.Enqueue: {2}, api.Dequeue: {1, 2},
	} {
		srv, _ := server.Do(server.New(), api.Req{Kind: api.Change, Txn: txn.Put("q/x/0000000000", "z", 0)})
		p := started(t, srv, 2, api.Machine{Kind: kind, Name: "x", N: 1, Value: "v"})
		var asked []int
		for range 6 {
			asked = append(asked, p.round()...)
		}
		end := api.Held
		if kind >= api.Enqueue {
			end = api.Over
		}
		if !slices.Equal(asked, want) || p.n.Mach.Phase != end || Holds(p.n) != (end == api.Held) || (p.n.Sess.Lease != 0) != (end == api.Held) {
			t.Errorf("of kind %d it asked %v, and is %v", kind, asked, p.n)
		}
	}
}

// R5, R6: what is handed in is not changed, and the same again, the answer is the same.
func TestNothingIsChanged(t *testing.T) {
	make := func() api.Node {
		n := with(in(1, 2))
		n.Clock, n.Main, n.Side = 200, call.Begin(request(), 100), call.Begin(request(), 100)
		return n
	}
	for _, on := range []bool{true, false} {
		n := make()
		n.Main.On, n.Side.On = on, on
		once, first := Step(2, n)
		again, second := Step(2, n)
		if !same(once, again) || !slices.Equal(first, second) || len(first) != 2 {
			t.Errorf("it is %v, and then %v", once, again)
		}
		first[0], first[1] = "", ""
		if third, out := Step(2, n); !same(third, once) || !slices.Equal(out, second) {
			t.Errorf("it is %v, %q", third, out)
		}
		body := reply(api.Reply{Who: 18, Seq: 7, KVs: []api.KV{{Key: "k", Create: 5}}})
		if a, b := Get(2, n, body), Get(2, n, body); !same(a, b) {
			t.Errorf("it is %v, and then %v", a, b)
		}
		Crash(n)
		Restart(n)
		n.Main.On, n.Side.On = true, true
		if !same(n, make()) {
			t.Errorf("what was handed in is now %v", n)
		}
	}
}

// R1: numbers from both ends are no reason to panic.
func TestNothingPanics(t *testing.T) {
	numbers := []int{math.MinInt, -1, 0, 1, 8, 100, maxNumber, maxNumber + 1, math.MaxInt}
	bodies := []string{"", "\x02", "\xff", long(999), reply(api.Reply{}), reply(api.Reply{Who: maxNumber, Seq: maxNumber, Lease: 1, TTL: 2})}
	for _, i := range numbers {
		for _, a := range numbers {
			for _, kind := range numbers {
				for _, phase := range phases {
					n := api.Node{Life: a, Clock: a, Seq: a, Sess: api.Sess{Lease: a, TTL: a, Until: a, Keep: a}, Mach: api.Machine{Kind: kind, Name: "x", N: a, Lease: a, Phase: phase, Token: a, Rev: a, Err: api.Errno(a)}}
					for _, on := range []bool{true, false} {
						n.Main, n.Side = api.Call{On: on, Sent: a, Next: a, Tries: a, Req: api.Req{Kind: api.Grant, Who: a, Seq: a}}, api.Call{On: on, Next: a, Tries: a}
						Who(i, n)
						Holds(n)
						Start(i, n, n.Mach)
						Start(i, n, api.Machine{Kind: kind, Name: "x", N: a})
						Release(n)
						Tell(n, "")
						Write(i, n, "")
						Step(i, n)
						Restart(Crash(n))
						for _, body := range bodies {
							Get(i, n, body)
						}
					}
				}
			}
		}
	}
}
