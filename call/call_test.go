package call

import (
	"math"
	"math/rand"
	"reflect"
	"strings"
	"testing"

	"baton/api"
	"baton/wire"
)

const maxNumber = 1<<40 - 1

// request is one that may be, with something of its own in each field.
func request() api.Req {
	return api.Req{
		Kind: api.Change, Who: 3, Seq: 4, Once: true, Key: "key", Value: "value", Lease: 5, Rev: 6, TTL: 7, Token: 8,
		Txn: api.Txn{
			If:   []api.Cmp{{Key: "if", What: api.Mod, How: api.Less, N: 9, Value: "a"}},
			Then: []api.Mut{{Key: "then", Value: "b", Lease: 10}},
			Else: []api.Mut{{Gone: true, Key: "else"}},
		},
	}
}

// with is request with something that is laid in it.
func with(lay func(r *api.Req)) api.Req {
	r := request()
	lay(&r)
	return r
}

// same tells whether a and b are alike in all.
func same(a api.Call, b api.Call) bool {
	return reflect.DeepEqual(a, b)
}

// P13.1
func TestBegin(t *testing.T) {
	for _, r := range []api.Req{request(), {}, {Kind: -1, Who: -2, Seq: math.MinInt, Key: strings.Repeat("k", 99)}} {
		for _, now := range []int{math.MinInt, -1, 0, 1, 5, maxNumber, maxNumber + 1, math.MaxInt} {
			want := api.Call{On: true, Req: r, Sent: now, Next: now, Tries: 0}
			if c := Begin(r, now); !same(c, want) {
				t.Errorf("of %v at %d it is %v", r, now, c)
			}
		}
	}
}

// P13.1
func TestDue(t *testing.T) {
	for i, c := range []struct {
		c    api.Call
		now  int
		want bool
	}{
		{api.Call{On: true, Next: 5}, 4, false}, {api.Call{On: true, Next: 5}, 5, true}, {api.Call{On: true, Next: 5}, 6, true},
		{api.Call{On: true, Next: 5}, math.MaxInt, true}, {api.Call{On: true, Next: 5}, math.MinInt, false},
		{api.Call{On: true, Next: math.MinInt}, math.MinInt, true}, {api.Call{On: true, Next: math.MinInt}, math.MaxInt, true},
		{api.Call{On: true, Next: math.MaxInt}, math.MaxInt - 1, false}, {api.Call{On: true, Next: math.MaxInt}, math.MaxInt, true},
		{api.Call{On: true, Next: -5}, -6, false}, {api.Call{On: true, Next: -5}, -5, true},
		{api.Call{Next: 5}, 5, false}, {api.Call{Next: 5}, 6, false}, {api.Call{}, 0, false}, {api.Call{}, math.MaxInt, false},
		// Next alone is asked, not when it was begun, nor how often it was sent, nor what it is.
		{api.Call{On: true, Sent: 9, Next: 5, Tries: 9}, 5, true}, {api.Call{On: true, Sent: 2, Next: 5}, 4, false},
		{api.Call{Req: request(), Sent: 2, Next: 5, Tries: 1}, 5, false},
		{Begin(request(), 7), 6, false}, {Begin(request(), 7), 7, true},
	} {
		if got := Due(c.c, c.now); got != c.want {
			t.Errorf("case %d: %v", i, got)
		}
	}
}

// P13.2
func TestPause(t *testing.T) {
	for tries, want := range map[int]int{
		math.MinInt: 16, -1 << 32: 16, -64: 16, -2: 16, -1: 16, 0: 16, 1: 32, 2: 64, 3: 128, 4: 256, 5: 256, 6: 256,
		59: 256, 60: 256, 63: 256, 64: 256, 65: 256, 1 << 20: 256, 1<<32 + 1: 256, math.MaxInt: 256,
	} {
		if got := Pause(tries); got != want {
			t.Errorf("of %d it is %d", tries, got)
		}
	}
}

// P13.2
func TestWait(t *testing.T) {
	const most = 16 + 32 + 64 + 128 + 256*(1<<20-4)
	for tries, want := range map[int]int{
		math.MinInt: 0, -2: 0, -1: 0, 0: 0, 1: 16, 2: 48, 3: 112, 4: 240, 5: 496, 6: 752, 7: 1008, 100: 240 + 256*96,
		1<<20 - 1: most - 256, 1 << 20: most, 1<<20 + 1: most, 1 << 21: most, maxNumber: most, math.MaxInt: most,
	} {
		if got := Wait(tries); got != want {
			t.Errorf("of %d it is %d", tries, got)
		}
	}
	// Each one is the one ahead of it and a pause more.
	sum := 0
	for tries := range 1 << 20 {
		if got := Wait(tries); got != sum {
			t.Fatalf("of %d it is %d, not %d", tries, got, sum)
		}
		sum += Pause(tries)
	}
	if sum != most {
		t.Errorf("all together it is %d", sum)
	}
}

// P13.3
func TestSends(t *testing.T) {
	for i, c := range []struct {
		c    api.Call
		now  int
		next int
	}{
		{api.Call{On: true, Sent: 5, Next: 5, Tries: 0}, 5, 21}, {api.Call{On: true, Sent: 5, Next: 5, Tries: 0}, 6, 22},
		{api.Call{On: true, Sent: 5, Next: 21, Tries: 1}, 21, 53}, {api.Call{On: true, Sent: 5, Next: 53, Tries: 2}, 53, 117},
		{api.Call{On: true, Sent: 5, Next: 117, Tries: 3}, 117, 245}, {api.Call{On: true, Sent: 5, Next: 245, Tries: 4}, 245, 501},
		{api.Call{On: true, Sent: 5, Next: 501, Tries: 5}, 501, 757}, {api.Call{On: true, Sent: 5, Next: 501, Tries: 5}, 9000, 9256},
		{api.Call{On: true, Sent: 5, Next: 5, Tries: 1 << 20}, 5, 261}, {api.Call{On: true, Sent: 0, Next: 0, Tries: -7}, 0, 16},
		// Time may be 0 to the greatest number, whatever Next and Sent are.
		{api.Call{On: true}, 0, 16}, {api.Call{On: true, Sent: -9, Next: -9}, 0, 16}, {api.Call{On: true, Sent: 99, Next: math.MinInt}, 0, 16},
		{api.Call{On: true, Next: maxNumber}, maxNumber, maxNumber + 16}, {api.Call{On: true, Tries: 4}, maxNumber, maxNumber + 256},
		{api.Call{On: true, Next: maxNumber - 1}, maxNumber - 1, maxNumber + 15},
	} {
		c.c.Req = request()
		want := c.c
		want.Next, want.Tries = c.next, c.c.Tries+1
		body, _ := wire.Ask(request())
		if got, s, is := Sends(c.c, c.now); !same(got, want) || s != body || !is {
			t.Errorf("case %d: %v, %q, %v", i, got, s, is)
		}
	}
}

// P13.3: the bytes are those of the request, whichever it is.
func TestSendsOfEachKind(t *testing.T) {
	for kind := range 10 {
		r := api.Req{Kind: kind, Who: maxNumber, Seq: maxNumber, Key: strings.Repeat("k", 40), Value: strings.Repeat("v", 20)}
		body, may := wire.Ask(r)
		if _, s, is := Sends(Begin(r, 9), 9); s != body || is != may || is != (kind >= 1 && kind <= 8) {
			t.Errorf("of kind %d it is %q, %v", kind, s, is)
		}
	}
}

// P13.3
func TestSendsOfWhatIsNotDue(t *testing.T) {
	for i, c := range []struct {
		c   api.Call
		now int
	}{
		{api.Call{}, 0}, {api.Call{}, 5}, {api.Call{Sent: 5, Next: 5}, 5}, {api.Call{Sent: 5, Next: 5, Tries: 3}, 99},
		{api.Call{On: true, Sent: 5, Next: 5}, 4}, {api.Call{On: true, Sent: 5, Next: 21, Tries: 1}, 20}, {api.Call{On: true, Next: 1}, 0},
		{api.Call{On: true, Next: maxNumber + 1}, maxNumber}, {api.Call{On: true, Next: math.MaxInt}, maxNumber},
		// Due, but at no time that may be.
		{api.Call{On: true, Sent: -1, Next: -1}, -1}, {api.Call{On: true, Sent: -3, Next: -3}, -3}, {api.Call{On: true, Next: math.MinInt}, math.MinInt},
		{api.Call{On: true, Next: math.MinInt}, -1}, {api.Call{On: true, Next: 5}, maxNumber + 1}, {api.Call{On: true, Next: maxNumber + 1}, maxNumber + 1},
		{api.Call{On: true, Next: 5, Tries: 4}, math.MaxInt}, {api.Call{On: true, Next: math.MaxInt}, math.MaxInt},
	} {
		c.c.Req = request()
		if got, s, is := Sends(c.c, c.now); !same(got, c.c) || s != "" || is {
			t.Errorf("case %d: %v, %q, %v", i, got, s, is)
		}
	}
}

// P13.3
func TestSendsOfWhatMayNotBe(t *testing.T) {
	for i, r := range []api.Req{
		{}, {Kind: -1}, {Kind: 9}, {Kind: math.MaxInt},
		with(func(r *api.Req) { r.Kind = 0 }), with(func(r *api.Req) { r.Who = -1 }), with(func(r *api.Req) { r.Seq = -1 }),
		with(func(r *api.Req) { r.Who = maxNumber + 1 }), with(func(r *api.Req) { r.Seq = maxNumber + 1 }),
		with(func(r *api.Req) { r.Lease = -1 }), with(func(r *api.Req) { r.Rev = maxNumber + 1 }),
		with(func(r *api.Req) { r.TTL = math.MinInt }), with(func(r *api.Req) { r.Token = math.MaxInt }),
		with(func(r *api.Req) { r.Key = strings.Repeat("k", 41) }), with(func(r *api.Req) { r.Value = strings.Repeat("v", 21) }),
		with(func(r *api.Req) { r.Txn.If = make([]api.Cmp, 1) }), with(func(r *api.Req) { r.Txn.Then = make([]api.Mut, 5) }),
		with(func(r *api.Req) { r.Txn.Else = []api.Mut{{Lease: -1}} }),
	} {
		for _, tries := range []int{0, 3} {
			c := api.Call{On: true, Req: r, Sent: 5, Next: 6, Tries: tries}
			if got, s, is := Sends(c, 7); !same(got, c) || s != "" || is {
				t.Errorf("case %d: %v, %q, %v", i, got, s, is)
			}
		}
	}
}

// P13.4
func TestGets(t *testing.T) {
	on := api.Call{On: true, Req: request(), Sent: 5, Next: 21, Tries: 1}
	off, zero := on, api.Call{On: true}
	off.On = false
	wrong := api.Call{On: true, Req: api.Req{Who: -1, Seq: math.MaxInt}}
	for i, c := range []struct {
		c    api.Call
		p    api.Reply
		want bool
	}{
		{on, api.Reply{Who: 3, Seq: 4}, true}, {Begin(request(), 9), api.Reply{Who: 3, Seq: 4}, true},
		{on, api.Reply{}, false}, {on, api.Reply{Who: 3}, false}, {on, api.Reply{Seq: 4}, false},
		{on, api.Reply{Who: 3, Seq: 3}, false}, {on, api.Reply{Who: 3, Seq: 5}, false}, {on, api.Reply{Who: 2, Seq: 4}, false},
		{on, api.Reply{Who: 4, Seq: 4}, false}, {on, api.Reply{Who: 4, Seq: 3}, false}, {on, api.Reply{Who: 3, Seq: -4}, false},
		{on, api.Reply{Who: -3, Seq: 4}, false}, {on, api.Reply{Who: math.MinInt, Seq: math.MaxInt}, false},
		// Whatever it tells beside that, and were it no reply that may be.
		{on, api.Reply{Who: 3, Seq: 4, Code: api.ErrOld}, true}, {on, api.Reply{Who: 3, Seq: 4, Code: 99, Rev: -1}, true},
		{on, api.Reply{Who: 3, Seq: 4, Lease: 9, TTL: 9, Yes: true, KVs: make([]api.KV, 99), Events: make([]api.Event, 99)}, true},
		{on, api.Reply{Who: 3, Seq: 5, Lease: 5, Rev: 6, TTL: 7}, false},
		{off, api.Reply{Who: 3, Seq: 4}, false}, {off, api.Reply{}, false}, {api.Call{}, api.Reply{}, false},
		{zero, api.Reply{}, true}, {zero, api.Reply{Seq: 1}, false}, {zero, api.Reply{Who: 1}, false},
		{wrong, api.Reply{Who: -1, Seq: math.MaxInt}, true}, {wrong, api.Reply{Who: -1, Seq: math.MinInt}, false},
	} {
		left := c.c
		if c.want {
			left = api.Call{}
		}
		if got, is := Gets(c.c, c.p); !same(got, left) || is != c.want {
			t.Errorf("case %d: %v, %v", i, got, is)
		}
	}
}

// sendings tells when c is sent, and what, if it is asked at each moment from from on, below to; and c as it is then.
func sendings(c api.Call, from int, to int) ([]int, []string, api.Call) {
	var at []int
	var bodies []string
	for now := from; now < to; now++ {
		next, s, is := Sends(c, now)
		if is {
			at, bodies = append(at, now), append(bodies, s)
		}
		c = next
	}
	return at, bodies, c
}

// The chapter's example.
func TestBegunAtFive(t *testing.T) {
	at, _, _ := sendings(Begin(request(), 5), 0, 245)
	if !reflect.DeepEqual(at, []int{5, 21, 53, 117}) {
		t.Errorf("it is sent at %v", at)
	}
}

// P13.5: it is sent again and again, each time behind the pause of its tries, each time the same bytes; told, no more.
func TestACallIsSentTillItIsTold(t *testing.T) {
	for _, begun := range []int{0, 5, 1000, maxNumber - 3000} {
		at, bodies, c := sendings(Begin(request(), begun), max(begun-20, 0), begun+3000)
		if len(at) != 4+11 || c.Tries != len(at) || !c.On || c.Sent != begun {
			t.Fatalf("it is sent at %v, and is %v", at, c)
		}
		body, _ := wire.Ask(request())
		for i, now := range at {
			if now != begun+Wait(i) || bodies[i] != body {
				t.Errorf("time %d it is sent at %d: %q", i, now, bodies[i])
			}
		}
		c, is := Gets(c, api.Reply{Who: 3, Seq: 4})
		if at, _, left := sendings(c, begun, begun+3000); !is || len(at) > 0 || left.On {
			t.Errorf("told (%v), it is sent at %v", is, at)
		}
	}
}

// P13.5: the same of a client that looks now and then, and is told what others are.
func TestACallIsSentLateAtMost(t *testing.T) {
	random := rand.New(rand.NewSource(13))
	for range 200 {
		now := random.Intn(1000)
		c, next := Begin(request(), now), now
		body, _ := wire.Ask(request())
		for tries := 0; tries < 12; now += random.Intn(40) {
			var s string
			var is bool
			if c, is = Gets(c, api.Reply{Who: 3, Seq: 5 + random.Intn(9)}); is {
				t.Fatal("it is told what another one is")
			}
			if c, s, is = Sends(c, now); is != (now >= next) || is && s != body || !is && s != "" {
				t.Fatalf("at %d, to be sent at %d: %q, %v", now, next, s, is)
			}
			if is {
				next = now + min(16<<tries, 256)
				tries++
			}
		}
		c, is := Gets(c, api.Reply{Who: 3, Seq: 4, Code: api.Errno(random.Intn(15))})
		if _, s, sent := Sends(c, now+999); !is || s != "" || sent {
			t.Fatalf("told (%v), it is sent: %q", is, s)
		}
	}
}

// R1: numbers from both ends are no reason to panic.
func TestNothingPanics(t *testing.T) {
	numbers := []int{math.MinInt, math.MinInt + 1, -1, 0, 1, 4, 5, maxNumber, maxNumber + 1, math.MaxInt - 1, math.MaxInt}
	for _, r := range []api.Req{{}, request(), {Kind: math.MinInt, Who: math.MinInt, Seq: math.MaxInt}} {
		for _, a := range numbers {
			Pause(a)
			Wait(a)
			Begin(r, a)
			for _, b := range numbers {
				c := api.Call{On: true, Req: r, Sent: a, Next: b, Tries: a}
				Gets(c, api.Reply{Code: api.Errno(a), Who: a, Seq: b})
				for _, now := range numbers {
					Due(c, now)
					Sends(c, now)
				}
			}
		}
	}
}

// R5, R6: what is handed in is not changed, and the same again, the answer is the same.
func TestNothingIsChanged(t *testing.T) {
	r := request()
	c := Begin(r, 5)
	p := api.Reply{Who: 3, Seq: 4, KVs: []api.KV{{Key: "a"}}, Events: []api.Event{{Rev: 1}}}
	sent, body, _ := Sends(c, 9)
	Gets(sent, p)
	again, other, _ := Sends(c, 9)
	if !same(sent, again) || body != other || !same(c, Begin(request(), 5)) {
		t.Errorf("it is %v and %v, of %v", sent, again, c)
	}
	if !reflect.DeepEqual(r, request()) || !reflect.DeepEqual(p, api.Reply{Who: 3, Seq: 4, KVs: []api.KV{{Key: "a"}}, Events: []api.Event{{Rev: 1}}}) {
		t.Errorf("what was handed in is now %v and %v", r, p)
	}
}
