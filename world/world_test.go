package world

import (
	"fmt"
	"math"
	"math/rand"
	"reflect"
	"slices"
	"strings"
	"testing"

	"baton/api"
	"baton/call"
	"baton/fence"
	"baton/node"
	"baton/server"
	"baton/wire"
)

const maxNumber = 1<<40 - 1

// made is a new world.
func made(t *testing.T, nodes int, strict bool) api.World {
	t.Helper()
	w, e := New(nodes, strict)
	if e != api.OK {
		t.Fatalf("of %d clients there is none: %d", nodes, e)
	}
	return w
}

// play plays moves, none of which may fail.
func play(t *testing.T, w api.World, l ...api.Move) api.World {
	t.Helper()
	for i, m := range l {
		next, e := Do(w, m)
		if e != api.OK {
			t.Fatalf("move %d, %v, tells %d", i, m, e)
		}
		w = next
	}
	return w
}

// does holds a move's error against e, and asks that one which fails changes nothing.
func does(t *testing.T, what string, w api.World, m api.Move, e api.Errno) api.World {
	t.Helper()
	got, f := Do(w, m)
	if f != e {
		t.Errorf("%s: of %v it is %d", what, m, f)
	}
	if f != api.OK && !reflect.DeepEqual(got, w) {
		t.Errorf("%s: of %v it is %v, and was %v", what, m, got, w)
	}
	return got
}

// start starts a recipe for a client.
func start(n, kind int) api.Move {
	return api.Move{Kind: api.Start, N: n, Mach: api.Machine{Kind: kind, Name: "x", N: 2, Value: "v"}}
}

// move is one that has only a number.
func move(kind, n int) api.Move {
	return api.Move{Kind: kind, N: n}
}

// trips are steps of a client, of each of which the one request and its reply are brought.
func trips(n int, times int) []api.Move {
	var l []api.Move
	for range times {
		l = append(l, move(api.Step, n), move(api.Deliver, 0), move(api.Deliver, 0))
	}
	return l
}

// put writes a value behind the fence, and brings it.
func put(n int, value string) []api.Move {
	return []api.Move{{Kind: api.Put, N: n, Value: value}, {Kind: api.Deliver}}
}

// ticks are so many, by the same.
func ticks(times int, by ...int) []api.Move {
	var l []api.Move
	for range times {
		l = append(l, api.Move{Kind: api.Tick, By: by})
	}
	return l
}

// P22.1
func TestNew(t *testing.T) {
	for _, strict := range []bool{true, false} {
		for n := 1; n <= 4; n++ {
			want := api.World{Strict: strict, Server: server.New(), Nodes: make([]api.Node, n)}
			if w, e := New(n, strict); !reflect.DeepEqual(w, want) || e != api.OK {
				t.Errorf("of %d it is %v, %d", n, w, e)
			}
		}
		for _, n := range []int{0, 5, 6, -1, 16, 256 + 1, math.MinInt, math.MaxInt} {
			if w, e := New(n, strict); !reflect.DeepEqual(w, api.World{}) || e != api.ErrArg {
				t.Errorf("of %d it is %v, %d", n, w, e)
			}
		}
	}
}

// P22.2: what is none of the moves.
func TestDoOfWhatIsNone(t *testing.T) {
	for _, w := range []api.World{{}, made(t, 2, true), play(t, made(t, 1, true), start(0, api.Mutex), move(api.Step, 0))} {
		for _, kind := range []int{0, -1, 15, 16, 257, 262, math.MinInt, math.MaxInt} {
			for _, n := range []int{0, -1, 99} {
				does(t, "no move", w, api.Move{Kind: kind, N: n, Mach: api.Machine{Kind: 1, Name: "x"}}, api.ErrArg)
			}
		}
	}
}

// P22.2: where a client is named that there is not, nothing else is asked.
func TestDoOfClientsThatAreNone(t *testing.T) {
	full := play(t, made(t, 3, true), start(0, api.Mutex), move(api.Step, 0))
	for len(full.Bag) < 16 {
		full = play(t, full, move(api.Copy, 0))
	}
	for _, w := range []api.World{{}, made(t, 3, true), full} {
		for _, kind := range []int{api.Step, api.Start, api.Release, api.Tell, api.Put, api.Pause, api.Resume, api.Crash, api.Restart} {
			for _, n := range []int{-1, 3, 4, 16, math.MinInt, math.MaxInt} {
				does(t, "no client", w, api.Move{Kind: kind, N: n, Value: strings.Repeat("v", 21)}, api.ErrNone)
			}
		}
	}
}

// P22.2
func TestTick(t *testing.T) {
	for i, c := range []struct {
		strict bool
		by     []int
		clocks [5]int
	}{
		{true, []int{15, 16, 17, 15, 16}, [5]int{15, 16, 17, 15, 16}}, {true, []int{17, 15, 17, 17, 15}, [5]int{17, 15, 17, 17, 15}},
		{true, []int{14, 18, -5, 64, 99}, [5]int{15, 17, 15, 17, 17}}, {true, []int{math.MinInt, math.MaxInt}, [5]int{15, 17, 16, 16, 16}},
		{true, nil, [5]int{16, 16, 16, 16, 16}}, {true, []int{17}, [5]int{17, 16, 16, 16, 16}}, {true, []int{15, 17}, [5]int{15, 17, 16, 16, 16}}, {true, []int{15, 15, 15, 15, 15, 17, 17}, [5]int{15, 15, 15, 15, 15}},
		{false, []int{0, 64, 1, 63, 30}, [5]int{0, 64, 1, 63, 30}}, {false, []int{-1, 65, math.MinInt, math.MaxInt, 64}, [5]int{0, 64, 0, 64, 64}}, {false, nil, [5]int{16, 16, 16, 16, 16}}, {false, []int{3, 0, 5}, [5]int{3, 0, 5, 16, 16}},
	} {
		for nodes := 1; nodes <= 4; nodes++ {
			w := made(t, nodes, c.strict)
			w.Server.Clock = 1000
			for i := range w.Nodes {
				// Whoever stands still, or is down, has a clock that goes on.
				w.Nodes[i] = api.Node{Life: i, Clock: 100 * i, Seq: 5, Paused: i == 1, Down: i == 2, Mach: api.Machine{Phase: 4}}
			}
			want := made(t, nodes, c.strict)
			want.Time, want.Server.Clock = 1, 1000+c.clocks[0]
			for i, n := range w.Nodes {
				n.Clock += c.clocks[i+1]
				want.Nodes[i] = n
			}
			if got := does(t, "a tick", w, api.Move{Kind: api.Tick, N: 99, By: c.by}, api.OK); !reflect.DeepEqual(got, want) {
				t.Errorf("case %d, of %d: it is %v", i, nodes, got)
			}
		}
	}
}

// P22.2: clocks stop at the greatest number; leases that are over are swept.
func TestTickAtTheEdges(t *testing.T) {
	w := made(t, 4, true)
	w.Server.Clock = maxNumber - 16
	for i, at := range []int{maxNumber - 16, maxNumber - 15, maxNumber, maxNumber + 1} {
		w.Nodes[i].Clock = at
	}
	w = play(t, w, api.Move{Kind: api.Tick})
	for i, n := range w.Nodes {
		if n.Clock != maxNumber {
			t.Errorf("clock %d is %d", i, n.Clock)
		}
	}
	if w.Server.Clock != maxNumber {
		t.Errorf("the server's is %d", w.Server.Clock)
	}
	// The server's goes no further, and none of it is done.
	w = play(t, w, api.Move{Kind: api.Tick})
	if w.Server.Clock != maxNumber || w.Time != 2 {
		t.Errorf("the server's is %d", w.Server.Clock)
	}
	below := made(t, 1, true)
	below.Nodes[0].Clock = -20
	if got := play(t, below, ticks(2)...); got.Nodes[0].Clock != 12 {
		t.Errorf("it is %v", got.Nodes[0])
	}
	w = play(t, made(t, 1, true), start(0, api.Mutex))
	w = play(t, w, trips(0, 3)...)
	w = play(t, w, ticks(12)...)
	if len(w.Server.Leases.L) != 1 || w.Server.Store.Rev != 1 || len(Holders(w)) != 0 || w.Server.Clock != 192 {
		t.Errorf("it is %v", w)
	}
	w = play(t, w, ticks(1)...)
	if len(w.Server.Leases.L) != 0 || w.Server.Store.Rev != 2 || len(w.Marks) != 2 {
		t.Errorf("it is %v", w)
	}
}

// P22.2
func TestStep(t *testing.T) {
	w := made(t, 4, true)
	for n := range 4 {
		w = play(t, w, start(n, api.Mutex))
	}
	for _, n := range []int{2, 0, 3, 1} {
		was := w
		w = play(t, w, move(api.Step, n))
		want, out := node.Step(n, was.Nodes[n])
		if len(out) != 1 || len(w.Bag) != len(was.Bag)+1 || w.Bag[len(was.Bag)] != (api.Msg{From: 2 + n, To: 0, Body: out[0]}) || !reflect.DeepEqual(w.Nodes[n], want) || w.Time != was.Time+1 {
			t.Errorf("of %d it is %v", n, w)
		}
		if !slices.Equal(w.Bag[:len(was.Bag)], was.Bag) {
			t.Errorf("of %d the bag is %v", n, w.Bag)
		}
		for i := range 4 {
			if i != n && !reflect.DeepEqual(w.Nodes[i], was.Nodes[i]) {
				t.Errorf("of %d, %d is %v", n, i, w.Nodes[i])
			}
		}
	}
	// Nothing is sent twice at once, nor by who stands still, but it is a move.
	for n := range 4 {
		if got := play(t, w, move(api.Step, n)); !slices.Equal(got.Bag, w.Bag) || got.Time != w.Time+1 {
			t.Errorf("of %d it is %v", n, got)
		}
		for _, still := range []int{api.Pause, api.Crash} {
			v := play(t, w, move(still, n))
			v = play(t, v, ticks(2)...)
			if got := play(t, v, move(api.Step, n)); !slices.Equal(got.Bag, w.Bag) || !reflect.DeepEqual(got.Nodes, v.Nodes) || got.Time != v.Time+1 {
				t.Errorf("of %d it is %v", n, got)
			}
		}
	}
}

// P22.2: where the bag has no room, nothing is sent, and the client is as it was.
func TestStepIntoAFullBag(t *testing.T) {
	// Its session is to be kept, and it looks: it sends two.
	w := play(t, made(t, 1, true), start(0, api.Mutex))
	w = play(t, w, trips(0, 2)...)
	w = play(t, w, ticks(6)...)
	for _, c := range []struct {
		there int
		e     api.Errno
	}{{0, api.OK}, {14, api.OK}, {15, api.ErrFull}, {16, api.ErrFull}} {
		v := w
		for i := range c.there {
			v.Bag = append(v.Bag, api.Msg{From: 2, To: 0, Body: fmt.Sprint(i)})
		}
		got := does(t, "two", v, move(api.Step, 0), c.e)
		if c.e != api.OK {
			continue
		}
		var kinds []int
		for _, m := range got.Bag[c.there:] {
			r, _ := wire.Asked(m.Body)
			kinds = append(kinds, r.Kind)
		}
		if !slices.Equal(kinds, []int{api.Range, api.Keep}) || !slices.Equal(got.Bag[:c.there], v.Bag) {
			t.Errorf("it sent %v", kinds)
		}
		if again := does(t, "nothing", got, move(api.Step, 0), api.OK); !slices.Equal(again.Bag, got.Bag) {
			t.Errorf("it is %v", again.Bag)
		}
	}
	// A message may not be that comes from a client of a greater number.
	many := api.World{Nodes: make([]api.Node, 6)}
	many = play(t, many, start(3, api.Dequeue), start(4, api.Dequeue), move(api.Step, 3))
	does(t, "too many", many, move(api.Step, 4), api.ErrArg)
}

// P22.2: which message is meant.
func TestMessages(t *testing.T) {
	w := made(t, 2, true)
	for i := range 5 {
		w.Bag = append(w.Bag, api.Msg{From: 2, To: 0, Body: fmt.Sprint(i)})
	}
	bodies := func(w api.World) string {
		s := ""
		for _, m := range w.Bag {
			s += m.Body
		}
		return s
	}
	for _, c := range []struct {
		kind, n int
		left    string
	}{
		{api.Drop, 0, "1234"}, {api.Drop, 2, "0134"}, {api.Drop, 4, "0123"}, {api.Copy, 0, "012340"}, {api.Copy, 3, "012343"}, {api.Copy, 4, "012344"},
		// What is no request is brought, and nothing comes of it.
		{api.Deliver, 0, "1234"}, {api.Deliver, 3, "0124"}, {api.Deliver, 4, "0123"},
	} {
		want := w
		got := does(t, "a message", w, move(c.kind, c.n), api.OK)
		want.Bag, want.Time = got.Bag, 1
		if bodies(got) != c.left || !reflect.DeepEqual(got, want) {
			t.Errorf("of %d and %d it is %v", c.kind, c.n, got)
		}
	}
	for _, kind := range []int{api.Drop, api.Copy, api.Deliver} {
		for _, n := range []int{-1, 5, 6, math.MinInt, math.MaxInt} {
			does(t, "no message", w, move(kind, n), api.ErrNone)
		}
		does(t, "no message", made(t, 1, true), move(kind, 0), api.ErrNone)
		does(t, "no message", api.World{}, move(kind, 0), api.ErrNone)
	}
	for len(w.Bag) < 16 {
		w = play(t, w, move(api.Copy, 1))
	}
	does(t, "a full bag", w, move(api.Copy, 0), api.ErrFull)
	does(t, "a full bag", w, move(api.Copy, 16), api.ErrNone)
	does(t, "a full bag", w, move(api.Drop, 15), api.OK)
}

// P22.2: what is brought to the server is done, and the reply goes to whom it came from.
func TestDeliverToTheServer(t *testing.T) {
	ask := func(r api.Req) string {
		s, _ := wire.Ask(r)
		return s
	}
	grant := ask(api.Req{Kind: api.Grant, Who: 7, Seq: 3, TTL: 50})
	for from := 1; from <= 5; from++ {
		w := made(t, 1, true)
		w.Server.Clock = 9
		w.Bag = []api.Msg{{From: 2, To: 1, Body: "a"}, {From: from, To: 0, Body: grant}, {From: 2, To: 1, Body: "b"}}
		got := play(t, w, move(api.Deliver, 1))
		tells, _ := wire.Tell(api.Reply{Who: 7, Seq: 3, Lease: 1, TTL: 50})
		want := w
		want.Time, want.Bag = 1, []api.Msg{w.Bag[0], w.Bag[2], {From: 0, To: from, Body: tells}}
		want.Server.Leases = api.Leases{Next: 1, L: []api.Lease{{Id: 1, TTL: 50, Until: 59}}}
		if !reflect.DeepEqual(got, want) {
			t.Errorf("from %d it is %v", from, got)
		}
	}
	// What is refused is told, too.
	w := made(t, 1, true)
	w.Bag = []api.Msg{{From: 3, To: 0, Body: ask(api.Req{Kind: api.Keep, Who: 7, Seq: 3, Lease: 5})}}
	got := play(t, w, move(api.Deliver, 0))
	if p, is := wire.Told(got.Bag[0].Body); !is || p.Code != api.ErrLease || got.Bag[0].To != 3 || !reflect.DeepEqual(got.Server, w.Server) {
		t.Errorf("it is %v", got)
	}
	// Of what is no request nothing comes: of a reply, say, or of a request that is cut.
	for _, s := range []string{"", "x", tellsOf(api.Reply{}), grant[:len(grant)-1], grant + "x", strings.Repeat("x", 5000)} {
		w.Bag = []api.Msg{{From: 3, To: 0, Body: s}}
		if got := play(t, w, move(api.Deliver, 0)); len(got.Bag) != 0 || !reflect.DeepEqual(got.Server, w.Server) || got.Time != 1 {
			t.Errorf("of %q it is %v", s, got)
		}
	}
	// Nor of a reply that may not be: there is more than can be told.
	for i := range 31 {
		w.Server.Store.Base = append(w.Server.Store.Base, api.KV{Key: fmt.Sprintf("k%02d", i), Create: 1, Mod: 1, Version: 1})
	}
	for key, left := range map[string]int{"k": 0, "k1": 1} {
		w.Bag = []api.Msg{{From: 3, To: 0, Body: ask(api.Req{Kind: api.Range, Key: key})}}
		if got := play(t, w, move(api.Deliver, 0)); len(got.Bag) != left || got.Time != 1 {
			t.Errorf("of %q it is %v", key, got)
		}
	}
	// A message out of a full bag makes room for its reply.
	w = made(t, 1, true)
	for range 16 {
		w.Bag = append(w.Bag, api.Msg{From: 2, To: 0, Body: grant})
	}
	if got := play(t, w, move(api.Deliver, 7)); len(got.Bag) != 16 || got.Bag[15].From != 0 {
		t.Errorf("it is %v", got.Bag)
	}
}

// tellsOf are the bytes of a reply.
func tellsOf(p api.Reply) string {
	s, _ := wire.Tell(p)
	return s
}

// P22.2: whatever the resource tells, it is a move.
func TestDeliverToTheResource(t *testing.T) {
	ask := func(kind, token int, value string) string {
		s, _ := wire.Ask(api.Req{Kind: kind, Who: 7, Token: token, Value: value})
		return s
	}
	w := made(t, 1, true)
	w.Res, _ = fence.Write(api.Resource{}, 3, 5, "v")
	for i, c := range []struct {
		body  string
		high  int
		value string
	}{
		{ask(api.Write, 5, "a"), 5, "a"}, {ask(api.Write, 9, "b"), 9, "b"}, {ask(api.Write, 4, "c"), 5, "v"}, {ask(api.Write, 0, "c"), 5, "v"}, {ask(api.Range, 9, "c"), 5, "v"}, {"", 5, "v"}, {"x", 5, "v"}, {tellsOf(api.Reply{}), 5, "v"},
	} {
		w.Bag = []api.Msg{{From: 2, To: 0}, {From: 2, To: 1, Body: c.body}}
		got := play(t, w, move(api.Deliver, 1))
		want := w
		want.Time, want.Bag = 1, w.Bag[:1]
		if c.value != "v" {
			want.Res = api.Resource{High: c.high, Value: c.value, Log: []api.Accept{w.Res.Log[0], {Who: 7, Token: c.high, Value: c.value}}}
		}
		if !reflect.DeepEqual(got, want) {
			t.Errorf("case %d: it is %v", i, got)
		}
	}
}

// P22.2: what is brought to a client.
func TestDeliverToAClient(t *testing.T) {
	w := play(t, made(t, 3, true), start(1, api.Dequeue), move(api.Step, 1), move(api.Deliver, 0))
	got := play(t, w, move(api.Deliver, 0))
	want := w
	want.Time, want.Bag = w.Time+1, nil
	want.Nodes = slices.Clone(w.Nodes)
	want.Nodes[1] = node.Get(1, w.Nodes[1], w.Bag[0].Body)
	if len(got.Bag) != 0 || got.Nodes[1].Mach.Phase != api.Wait || !reflect.DeepEqual(got.Nodes, want.Nodes) || got.Time != want.Time || len(got.Marks) != 1 {
		t.Errorf("it is %v", got)
	}
	// To another one it is nothing, but it is brought; also to who is down, or what is no reply.
	for i, c := range []func(*api.World){func(w *api.World) { w.Bag[0].To = 2 }, func(w *api.World) { w.Bag[0].To = 4 }, func(w *api.World) { w.Nodes[1].Down = true }, func(w *api.World) { w.Bag[0].Body = "x" }, func(w *api.World) { w.Bag[0].From = 5 }} {
		v := w
		v.Bag, v.Nodes = slices.Clone(w.Bag), slices.Clone(w.Nodes)
		c(&v)
		got := play(t, v, move(api.Deliver, 0))
		if len(got.Bag) != 0 || got.Time != v.Time+1 || reflect.DeepEqual(got.Nodes, v.Nodes) != (i < 4) {
			t.Errorf("case %d: it is %v", i, got)
		}
	}
	// Who is paused gets nothing, whatever it is, and the message stays; then it does.
	paused := play(t, w, move(api.Pause, 1))
	for _, body := range []string{w.Bag[0].Body, "x"} {
		paused.Bag = []api.Msg{{From: 0, To: 3, Body: body}}
		does(t, "who is paused", paused, move(api.Deliver, 0), api.ErrBusy)
	}
	paused.Bag = w.Bag
	if got := play(t, paused, move(api.Resume, 1), move(api.Deliver, 0)); got.Nodes[1].Mach.Phase != api.Wait {
		t.Errorf("it is %v", got)
	}
	// Of a client that has no number, for there are too many, it is nothing, but it is brought.
	many := w
	many.Nodes = make([]api.Node, 20)
	many.Nodes[15], many.Nodes[16] = w.Nodes[1], w.Nodes[1]
	for to, gets := range map[int]bool{17: true, 18: false} {
		many.Bag = []api.Msg{{From: 0, To: to, Body: w.Bag[0].Body}}
		if got := play(t, many, move(api.Deliver, 0)); len(got.Bag) != 0 || reflect.DeepEqual(got.Nodes, many.Nodes) == gets {
			t.Errorf("to %d it is %v", to, got)
		}
	}
	for _, to := range []int{5, 6, 99, -1, -2, math.MinInt, math.MaxInt} {
		v := w
		v.Bag = []api.Msg{{From: 0, To: to, Body: w.Bag[0].Body}}
		does(t, "to nobody", v, move(api.Deliver, 0), api.ErrNone)
		does(t, "to nobody", v, move(api.Drop, 0), api.OK)
	}
}

// P22.2: what a client is told to do is done by node.
func TestClients(t *testing.T) {
	held := play(t, made(t, 2, true), start(1, api.Leader))
	held = play(t, held, trips(1, 3)...)
	mach := api.Machine{Kind: api.Permit, Name: "y", N: 3}
	for i, c := range []struct {
		m  api.Move
		n  func(api.Node) (api.Node, api.Errno)
		to int
	}{
		{api.Move{Kind: api.Start, N: 0, Mach: mach}, func(n api.Node) (api.Node, api.Errno) { return node.Start(0, n, mach) }, 0},
		{move(api.Release, 1), node.Release, 1}, {api.Move{Kind: api.Tell, N: 1, Value: "new"}, func(n api.Node) (api.Node, api.Errno) { return node.Tell(n, "new") }, 1},
		{move(api.Pause, 1), func(n api.Node) (api.Node, api.Errno) { n.Paused = true; return n, api.OK }, 1}, {move(api.Resume, 0), func(n api.Node) (api.Node, api.Errno) { return n, api.OK }, 0},
		{move(api.Crash, 1), func(n api.Node) (api.Node, api.Errno) { return node.Crash(n), api.OK }, 1}, {move(api.Restart, 0), func(n api.Node) (api.Node, api.Errno) { return n, api.OK }, 0},
	} {
		got := play(t, held, c.m)
		want := held
		want.Time++
		want.Nodes = slices.Clone(held.Nodes)
		n, e := c.n(held.Nodes[c.to])
		want.Nodes[c.to] = n
		want.Marks = got.Marks
		if !reflect.DeepEqual(got, want) || e != api.OK {
			t.Errorf("case %d: it is %v", i, got)
		}
	}
	w := play(t, held, move(api.Pause, 1), move(api.Pause, 1))
	if !w.Nodes[1].Paused || w.Nodes[0].Paused {
		t.Errorf("it is %v", w.Nodes)
	}
	w = play(t, w, move(api.Resume, 1))
	if !reflect.DeepEqual(w.Nodes, held.Nodes) {
		t.Errorf("it is %v", w.Nodes)
	}
	w = play(t, w, move(api.Crash, 1), move(api.Pause, 1))
	if n := w.Nodes[1]; !n.Down || !n.Paused || n.Mach.Kind != 0 {
		t.Errorf("it is %v", n)
	}
	w = play(t, w, move(api.Restart, 1))
	if n := w.Nodes[1]; n.Down || n.Paused || n.Life != 1 {
		t.Errorf("it is %v", n)
	}
	// Their errors are told.
	w = play(t, held, start(0, api.Enqueue))
	for _, c := range []struct {
		m api.Move
		e api.Errno
	}{
		{start(1, api.Mutex), api.ErrBusy}, {move(api.Release, 0), api.ErrNone}, {move(api.Tell, 0), api.ErrNone}, {move(api.Put, 0), api.ErrNone}, {api.Move{Kind: api.Put, N: 1, Value: strings.Repeat("v", 21)}, api.ErrArg}, {api.Move{Kind: api.Tell, N: 1, Value: strings.Repeat("v", 21)}, api.ErrNone},
	} {
		does(t, "of a client", w, c.m, c.e)
	}
	does(t, "no recipe", made(t, 1, true), start(0, 9), api.ErrArg)
	full := made(t, 1, true)
	full.Nodes[0].Seq = 65535
	does(t, "no room", full, start(0, api.Enqueue), api.ErrFull)
	w = play(t, held, move(api.Pause, 1))
	for _, kind := range []int{api.Start, api.Release, api.Tell, api.Put} {
		does(t, "who is paused", w, move(kind, 1), api.ErrBusy)
	}
}

// P22.2
func TestPut(t *testing.T) {
	w := play(t, made(t, 2, true), start(1, api.Mutex))
	w = play(t, w, trips(1, 3)...)
	got := play(t, w, api.Move{Kind: api.Put, N: 1, Value: "new"})
	body, _ := wire.Ask(api.Req{Kind: api.Write, Who: 1, Token: 1, Value: "new"})
	if !slices.Equal(got.Bag, []api.Msg{{From: 3, To: 1, Body: body}}) || !reflect.DeepEqual(got.Nodes, w.Nodes) || got.Res.High != 0 || got.Time != w.Time+1 || len(got.Marks) != len(w.Marks) {
		t.Errorf("it is %v", got)
	}
	got = play(t, got, move(api.Deliver, 0))
	if !reflect.DeepEqual(got.Res, api.Resource{High: 1, Value: "new", Log: []api.Accept{{Who: 1, Token: 1, Value: "new"}}}) || len(got.Bag) != 0 {
		t.Errorf("it is %v", got)
	}
	for range 16 {
		w = play(t, w, api.Move{Kind: api.Put, N: 1, Value: "new"})
	}
	does(t, "a full bag", w, api.Move{Kind: api.Put, N: 1}, api.ErrFull)
	does(t, "a full bag", w, api.Move{Kind: api.Put, N: 0}, api.ErrNone)
}

// P22.2
func TestShrink(t *testing.T) {
	w := play(t, made(t, 1, true), start(0, api.Mutex))
	w = play(t, w, trips(0, 3)...)
	w = play(t, w, move(api.Release, 0))
	w = play(t, w, trips(0, 1)...)
	for rev, e := range map[int]api.Errno{0: api.OK, 1: api.OK, 2: api.OK, 3: api.ErrRev, maxNumber: api.ErrRev, maxNumber + 1: api.ErrArg, -1: api.ErrArg, math.MinInt: api.ErrArg, math.MaxInt: api.ErrArg} {
		got := does(t, "a shrink", w, move(api.Shrink, rev), e)
		want, p := server.Do(w.Server, api.Req{Kind: api.Compact, Rev: rev})
		if p.Code != e || !reflect.DeepEqual(got.Server, want) || e == api.OK && (got.Server.Store.Low != rev || got.Time != w.Time+1 || len(got.Bag) != 0) {
			t.Errorf("of %d it is %v", rev, got)
		}
	}
	w = play(t, w, move(api.Shrink, 2))
	does(t, "again", w, move(api.Shrink, 1), api.ErrCompact)
	// No reply of it is kept.
	if len(w.Server.Memos.L) == 0 || w.Server.Memos.L[0].Seq == 0 {
		t.Errorf("it is %v", w.Server.Memos)
	}
}

// at is a world of three clients, of which number 1 has a recipe of that kind and phase under way, and gets p.
func at(kind, phase int, p api.Reply) api.World {
	p.Who, p.Seq = 33, 7
	m := api.Machine{Kind: kind, Name: "x", N: 2, Value: "v", Key: "k", Lease: 3, Phase: phase, Token: 4, Rev: 6}
	n := api.Node{Life: 2, Clock: 100, Seq: 7, Sess: api.Sess{Lease: 3, TTL: 200, Until: 276, Keep: 188}, Main: call.Begin(api.Req{Kind: api.Range, Who: 33, Seq: 7}, 90), Mach: m}
	old := api.Mark{At: 5, Kind: 1, Who: 9}
	return api.World{Strict: true, Time: 40, Server: server.New(), Nodes: []api.Node{{}, n, {}}, Bag: []api.Msg{{From: 0, To: 3, Body: tellsOf(p)}}, Marks: []api.Mark{old}}
}

// P22.2: how clients are marked by what they are told.
func TestMarksOfWhatIsTold(t *testing.T) {
	k := []api.KV{{Key: "k", Create: 5}}
	for i, c := range []struct {
		kind, phase int
		p           api.Reply
		mark        int
		alive       bool
	}{
		{1, 2, api.Reply{KVs: k}, api.Got, true}, {2, 2, api.Reply{KVs: k}, api.Got, true}, {3, 2, api.Reply{KVs: k}, api.Got, true}, {4, 2, api.Reply{KVs: k}, api.Got, true}, {5, 2, api.Reply{KVs: k}, api.Got, true},
		{6, 2, api.Reply{KVs: []api.KV{{Key: "k", Create: 5}, {Key: "p/x/open", Create: 9}}}, api.Got, true}, {6, 9, api.Reply{}, api.Got, true},
		// Who said something led all the time; only a Leader says.
		{5, 9, api.Reply{Yes: true}, 0, false}, {1, 9, api.Reply{Yes: true}, api.Got, true}, {4, 9, api.Reply{Yes: true}, api.Got, true}, {5, 9, api.Reply{}, api.Returned, false},
		{1, 5, api.Reply{}, api.Returned, false}, {5, 5, api.Reply{}, api.Returned, false}, {6, 5, api.Reply{}, 0, false}, {6, 6, api.Reply{}, api.Returned, false}, {6, 6, api.Reply{KVs: []api.KV{{Key: "p/x/0000000007"}}}, 0, false},
		{7, 1, api.Reply{Yes: true, Rev: 9}, api.Returned, false}, {8, 10, api.Reply{Yes: true}, api.Returned, false}, {8, 10, api.Reply{}, 0, false}, {8, 2, api.Reply{KVs: k}, 0, false}, {8, 2, api.Reply{}, 0, false}, {8, 3, api.Reply{}, 0, false},
		{1, 1, api.Reply{Yes: true}, 0, false}, {1, 1, api.Reply{}, api.Returned, false}, {1, 2, api.Reply{}, api.Returned, false}, {1, 2, api.Reply{KVs: []api.KV{{Key: "a", Create: 4}, k[0]}}, 0, false}, {1, 3, api.Reply{}, 0, false}, {1, 3, api.Reply{Code: 9}, 0, false},
		{1, 3, api.Reply{Code: 6}, api.Returned, false}, {6, 5, api.Reply{Code: 4}, api.Returned, false}, {8, 2, api.Reply{Code: 4}, api.Returned, false},
		{1, 4, api.Reply{Code: 6}, 0, false}, {1, 7, api.Reply{Yes: true}, 0, false}, {1, 8, api.Reply{Yes: true}, 0, false}, {1, 0, api.Reply{Yes: true}, 0, false},
	} {
		w := at(c.kind, c.phase, c.p)
		got := play(t, w, move(api.Deliver, 0))
		want := w.Marks
		if c.mark != 0 {
			want = []api.Mark{w.Marks[0], {At: 40, Kind: c.mark, Who: 33, Mach: got.Nodes[1].Mach, Alive: c.alive}}
		}
		if !slices.Equal(got.Marks, want) {
			t.Errorf("case %d: it is %v", i, got.Marks)
		}
	}
	// Whether it holds is told as it is: under another lease it doesn't.
	w := at(1, 2, api.Reply{KVs: k})
	w.Nodes[1].Mach.Lease = 4
	if got := play(t, w, move(api.Deliver, 0)); len(got.Marks) != 2 || got.Marks[1].Kind != api.Got || got.Marks[1].Alive {
		t.Errorf("it is %v", got.Marks)
	}
	// A Grant that fails is the end of who asked for it; and one whose session is over by then.
	w = at(1, 1, api.Reply{Code: api.ErrFull})
	w.Nodes[1].Main.Req.Kind = api.Grant
	if got := play(t, w, move(api.Deliver, 0)); len(got.Marks) != 2 || got.Marks[1].Kind != api.Returned || got.Marks[1].Mach.Err != api.ErrFull {
		t.Errorf("it is %v", got.Marks)
	}
	w = at(1, 2, api.Reply{KVs: k})
	w.Nodes[1].Clock = 276
	if got := play(t, w, move(api.Deliver, 0)); len(got.Marks) != 2 || got.Marks[1].Kind != api.Returned || got.Marks[1].Mach.Err != api.ErrLost {
		t.Errorf("it is %v", got.Marks)
	}
}

// P22.2: how clients are marked by what they do, and are made do.
func TestMarksOfWhatIsDone(t *testing.T) {
	marked := func(what string, w api.World, m api.Move, kind int) {
		t.Helper()
		got := play(t, w, m)
		want := w.Marks
		if kind != 0 {
			n := got.Nodes[1]
			want = append(slices.Clone(w.Marks), api.Mark{At: w.Time, Kind: kind, Who: 16*n.Life + 1, Mach: n.Mach})
		}
		if !slices.Equal(got.Marks, want) {
			t.Errorf("%s: it is %v", what, got.Marks)
		}
	}
	for kind := 1; kind <= 8; kind++ {
		for _, phase := range []int{0, 7, 8, 11} {
			w := at(kind, phase, api.Reply{})
			w.Nodes[1].Main.On = false
			for next := 1; next <= 8; next++ {
				marked("a start", w, start(1, next), api.Called)
			}
		}
		for _, phase := range []int{2, 3, 4} {
			w := at(kind, phase, api.Reply{})
			w.Nodes[1].Main.On = false
			if kind <= 5 || kind == 6 && phase == 4 {
				marked("a release", w, move(api.Release, 1), api.Let)
			}
		}
		for _, phase := range []int{0, 1, 2, 3, 4, 5, 6, 7, 8, 9, 10} {
			w := at(kind, phase, api.Reply{})
			// When the session is over, whoever is on its way fails at its next step.
			w.Nodes[1].Clock = 300
			over := 0
			if kind <= 6 && phase != 0 && phase != 7 && phase != 8 {
				over = api.Returned
			}
			marked("a step", w, move(api.Step, 1), over)
			w.Nodes[1].Clock = 100
			marked("a step", w, move(api.Step, 1), 0)
			marked("a crash", w, move(api.Crash, 1), 0)
			marked("a pause", w, move(api.Pause, 1), 0)
			marked("a tick", w, move(api.Tick, 0), 0)
			w.Nodes[1].Down = true
			marked("a restart", w, move(api.Restart, 1), 0)
			w.Nodes[1].Paused = true
			marked("a resume", w, move(api.Resume, 1), 0)
		}
	}
	w := at(5, 4, api.Reply{})
	w.Nodes[1].Main.On = false
	marked("a tell", w, api.Move{Kind: api.Tell, N: 1, Value: "new"}, 0)
	marked("a put", w, api.Move{Kind: api.Put, N: 1, Value: "new"}, 0)
	marked("a shrink", w, move(api.Shrink, 0), 0)
	marked("a drop", w, move(api.Drop, 0), 0)
	marked("a copy", w, move(api.Copy, 0), 0)
	// Another one is marked by its own number.
	w = play(t, w, start(2, api.Reader), start(0, api.Permit))
	if l := w.Marks[1:]; len(l) != 2 || l[0].Who != 2 || l[0].At != 40 || l[0].Mach.Kind != api.Reader || l[1].Who != 0 || l[1].At != 41 || l[1].Mach.Kind != api.Permit {
		t.Errorf("it is %v", w.Marks)
	}
}

// P22.3
func TestPlay(t *testing.T) {
	w := made(t, 2, true)
	l := []api.Move{{}, start(0, api.Mutex), start(0, api.Mutex), move(api.Step, 0), move(api.Deliver, 0), move(api.Deliver, 1), move(api.Deliver, 0), move(api.Shrink, 7), move(api.Step, 2), {Kind: api.Tick}, start(1, 9)}
	got, told := Play(w, l)
	if !slices.Equal(told, []api.Errno{1, 0, 11, 0, 0, 5, 0, 8, 5, 0, 1}) {
		t.Errorf("it tells %v", told)
	}
	if want := play(t, w, l[1], l[3], l[4], l[6], l[9]); !reflect.DeepEqual(got, want) || got.Time != 5 {
		t.Errorf("it is %v", got)
	}
	for _, w := range []api.World{{}, w, got} {
		if again, told := Play(w, nil); !reflect.DeepEqual(again, w) || len(told) != 0 {
			t.Errorf("it is %v, %v", again, told)
		}
	}
}

// P22.3
func TestHolders(t *testing.T) {
	holds := func(lease, until, phase int) api.Node {
		return api.Node{Clock: 50, Sess: api.Sess{Lease: 3, Until: until}, Mach: api.Machine{Lease: lease, Phase: phase}}
	}
	for i, c := range []struct {
		nodes []api.Node
		want  []int
	}{
		{nil, nil}, {make([]api.Node, 4), nil}, {[]api.Node{holds(3, 51, 4)}, []int{0}}, {[]api.Node{holds(3, 51, 9), holds(3, 50, 4), holds(2, 51, 4), holds(3, 51, 4)}, []int{0, 3}},
		{[]api.Node{{}, holds(3, 99, 4), holds(3, 99, 4), holds(3, 99, 5), holds(3, 99, 9), holds(3, 99, 4)}, []int{1, 2, 4, 5}},
	} {
		if got := Holders(api.World{Nodes: c.nodes}); !slices.Equal(got, c.want) {
			t.Errorf("case %d: it is %v", i, got)
		}
	}
}

// stage is a world on its way, and what was seen of it.
type stage struct {
	t      *testing.T
	seed   int
	random *rand.Rand
	w      api.World
	kinds  []int
	made   map[int]string
	rev    int
	had    map[int]map[string]bool
	got    map[int]int
	told   map[api.Errno]int
	two    int
	over   int
}

// next is something that may happen.
func (s *stage) next() []api.Move {
	n := s.random.Intn(len(s.w.Nodes))
	switch at := s.random.Intn(400); {
	case at < 40:
		return s.ticks(1)
	case at < 160:
		return []api.Move{move(api.Step, n)}
	case at < 290:
		return []api.Move{move(api.Deliver, s.random.Intn(len(s.w.Bag)+1))}
	case at < 300:
		return []api.Move{move(api.Drop, s.random.Intn(len(s.w.Bag)+1))}
	case at < 310:
		return []api.Move{move(api.Copy, s.random.Intn(len(s.w.Bag)+1))}
	case at < 345:
		m := api.Machine{Kind: s.kinds[s.random.Intn(len(s.kinds))], Name: "x", N: 1 + s.random.Intn(3), Value: "v"}
		return []api.Move{{Kind: api.Start, N: n, Mach: m}}
	case at < 357:
		return []api.Move{move(api.Release, n)}
	case at < 363:
		return []api.Move{{Kind: api.Tell, N: n, Value: fmt.Sprint(at)}}
	case at < 378:
		return []api.Move{{Kind: api.Put, N: n, Value: fmt.Sprint(at)}}
	case at < 381:
		return []api.Move{move(api.Shrink, s.w.Server.Store.Rev+2-s.random.Intn(20))}
	case at < 384:
		return []api.Move{move(api.Crash, n)}
	case at < 390:
		return []api.Move{move(api.Restart, n)}
	case at < 393:
		return append([]api.Move{move(api.Pause, n)}, s.ticks(s.random.Intn(16))...)
	case at < 398:
		return []api.Move{move(api.Resume, n)}
	}
	return s.ticks(s.random.Intn(16))
}

// ticks are so many, each clock by what it likes.
func (s *stage) ticks(times int) []api.Move {
	var l []api.Move
	even := s.random.Intn(2)
	for range times {
		var by []int
		for range 1 + len(s.w.Nodes) {
			// Some always go as fast, or as slowly, as they may.
			switch s.random.Intn(4) * even {
			case 0:
				by = append(by, []int{17, 15, 0, 64, 17}[len(by)])
			case 1:
				by = append(by, 15)
			case 2:
				by = append(by, 17)
			default:
				by = append(by, s.random.Intn(80)-8)
			}
		}
		l = append(l, api.Move{Kind: api.Tick, By: by})
	}
	return l
}

// do plays one move, and looks at what came of it.
func (s *stage) do(m api.Move) {
	was := s.w
	w, e := Do(was, m)
	s.told[e]++
	if e != api.OK {
		if !reflect.DeepEqual(w, was) {
			s.t.Fatalf("of seed %d %v fails with %d, and changes %v to %v", s.seed, m, e, was, w)
		}
		return
	}
	if w.Time != was.Time+1 || len(w.Bag) > api.MaxBag || len(w.Marks) > len(was.Marks)+1 {
		s.t.Fatalf("of seed %d %v makes %v of %v", s.seed, m, w, was)
	}
	s.w = w
	s.see(was)
	s.fenced(was.Res)
	s.beside()
}

// see keeps in mind which keys were made, and who had which.
func (s *stage) see(was api.World) {
	for _, e := range s.w.Server.Store.Log {
		if e.Rev > s.rev && !e.Gone && e.KV.Create == e.Rev {
			s.made[e.Rev] = e.KV.Key
		}
	}
	s.rev = s.w.Server.Store.Rev
	for i, n := range s.w.Nodes {
		who := 16*n.Life + i
		if s.had[who] == nil {
			s.had[who] = map[string]bool{}
		}
		s.had[who][n.Mach.Key] = true
		if n.Mach.Phase == api.Held && was.Nodes[i].Mach.Phase != api.Held {
			s.got[n.Mach.Kind]++
		}
		if n.Mach.Phase == api.Over && was.Nodes[i].Mach.Phase != api.Over {
			s.over++
		}
	}
}

// fenced asks that tokens don't fall, and that each was that of a key of who wrote, and of nobody else.
func (s *stage) fenced(was api.Resource) {
	r := s.w.Res
	if r.High < was.High || len(r.Log) < len(was.Log) || len(r.Log) == len(was.Log) && !reflect.DeepEqual(r, was) {
		s.t.Fatalf("of seed %d the resource was %v and is %v", s.seed, was, r)
	}
	for _, a := range r.Log[len(was.Log):] {
		k := s.made[a.Token]
		for who, keys := range s.had {
			if k == "" || keys[k] != (who == a.Who) {
				s.t.Fatalf("of seed %d %v was written; its key is %q, and %d had %v", s.seed, a, k, who, keys)
			}
		}
	}
}

// beside asks that no two hold that may not.
func (s *stage) beside() {
	var count [7]int
	most := 0
	for _, i := range Holders(s.w) {
		m := s.w.Nodes[i].Mach
		count[m.Kind]++
		if m.Kind == api.Permit {
			most = max(most, m.N)
		}
	}
	if count[api.Mutex] > 1 || count[api.Leader] > 1 || count[api.Writer] > 1 || count[api.Writer] == 1 && count[api.Reader] > 0 || count[api.Permit] > most {
		s.two++
		if s.w.Strict {
			s.t.Fatalf("of seed %d they hold at once: %v", s.seed, s.w.Nodes)
		}
	}
}

// marks asks that what is marked is in order: tokens of those who hold alone rise, things of a queue are taken once, and each write is of one who got its token.
func (s *stage) marks() {
	latest, taken, got := map[int]int{}, map[int]bool{}, map[api.Accept]bool{}
	for i, m := range s.w.Marks {
		kind, token := m.Mach.Kind, m.Mach.Token
		switch {
		case i > 0 && m.At <= s.w.Marks[i-1].At || m.At >= s.w.Time:
			s.t.Fatalf("of seed %d %v comes behind %v", s.seed, m, s.w.Marks[i-1])
		case m.Kind == api.Got:
			got[api.Accept{Who: m.Who, Token: token}] = true
			if s.w.Strict && token <= latest[kind] && (kind == api.Mutex || kind == api.Writer || kind == api.Leader) {
				s.t.Fatalf("of seed %d %v comes behind %d", s.seed, m, latest[kind])
			}
			latest[kind] = token
		case m.Kind == api.Returned && kind == api.Dequeue && m.Mach.Phase == api.Over:
			if taken[token] {
				s.t.Fatalf("of seed %d %v was taken ahead of that", s.seed, m)
			}
			taken[token] = true
		}
	}
	for _, a := range s.w.Res.Log {
		if !got[api.Accept{Who: a.Who, Token: a.Token}] {
			s.t.Fatalf("of seed %d nobody got the token of %v", s.seed, a)
		}
	}
}

// P22.4: of any moves.
func TestWhatFollows(t *testing.T) {
	got, told, over := map[int]int{}, map[api.Errno]int{}, 0
	var two [2]int
	writes := 0
	for seed := range 600 {
		strict := seed%4 != 0
		kinds := [][]int{{1}, {2, 3, 3}, {4}, {5}, {6}, {7, 8}, {1, 2, 3, 4, 5, 6, 7, 8}}[seed%7]
		s := &stage{t: t, seed: seed, random: rand.New(rand.NewSource(int64(seed))), w: made(t, 1+seed/7%4, strict), kinds: kinds, made: map[int]string{}, had: map[int]map[string]bool{}, got: got, told: told}
		for s.w.Time < 700 {
			for _, m := range s.next() {
				s.do(m)
			}
		}
		s.marks()
		writes += len(s.w.Res.Log)
		over += s.over
		if strict {
			two[0] += s.two
		} else {
			two[1] += s.two
		}
	}
	// So much happened that it counts for something.
	for kind := 1; kind <= 6; kind++ {
		if got[kind] < 50 {
			t.Errorf("of kind %d only %d held", kind, got[kind])
		}
	}
	for _, e := range []api.Errno{api.ErrNone, api.ErrBusy, api.ErrFull, api.ErrRev, api.ErrCompact} {
		if told[e] < 20 {
			t.Errorf("of %d only %d were told", e, told[e])
		}
	}
	if writes < 300 || over < 300 || two[0] != 0 || two[1] < 20 {
		t.Errorf("%d wrote, %d were over, %v held at once that may not", writes, over, two)
	}
}

// P22.4: clients that go on, and are told, all come to have what they want; also where much is lost, and they have to begin anew.
func TestAllComeToHaveWhatTheyWant(t *testing.T) {
	for seed := range 240 {
		random := rand.New(rand.NewSource(int64(seed)))
		kinds := [][]int{{1}, {2, 3}, {4}, {5}, {6}, {1, 2, 3, 4, 5}}[seed%6]
		lossy := seed / 6 % 2
		w := made(t, 4, true)
		done := map[int]bool{}
		for len(done) < 4 {
			if w.Time > 20000 {
				t.Fatalf("of seed %d not all had what they wanted: %v", seed, w.Nodes)
			}
			for n := range 4 {
				switch m := w.Nodes[n].Mach; {
				case m.Phase == api.Over:
					done[n] = true
				case m.Phase == api.Failed && lossy == 0:
					t.Fatalf("of seed %d it failed: %v", seed, m)
				case m.Phase == api.Failed || m.Phase == api.Idle:
					w = play(t, w, api.Move{Kind: api.Start, N: n, Mach: api.Machine{Kind: kinds[(n+seed)%len(kinds)], Name: "x", N: 1 + seed%2}})
				}
				w, _ = Do(w, move(api.Step, n))
			}
			for len(w.Bag) > 0 {
				at := random.Intn(len(w.Bag))
				if random.Intn(8) < lossy {
					w = play(t, w, move(api.Drop, at))
					continue
				}
				if random.Intn(8) == 0 {
					w, _ = Do(w, move(api.Copy, at))
				}
				w = play(t, w, move(api.Deliver, at))
			}
			for _, n := range Holders(w) {
				w, _ = Do(w, move(api.Release, n))
			}
			w = play(t, w, api.Move{Kind: api.Tick, By: []int{15 + random.Intn(3), 15 + random.Intn(3), 15 + random.Intn(3), 15 + random.Intn(3), 15 + random.Intn(3)}})
		}
	}
}

// The chapter's example, and examples 1 and 2 of the whole.
func TestOneHoldsAndThenTheOther(t *testing.T) {
	w := play(t, made(t, 1, true), start(0, api.Mutex))
	w = play(t, w, trips(0, 3)...)
	if !slices.Equal(Holders(w), []int{0}) || w.Time != 10 || w.Nodes[0].Seq != 3 {
		t.Errorf("it is %v", w)
	}
	w = play(t, made(t, 2, true), start(0, api.Mutex), start(1, api.Mutex))
	w = play(t, w, trips(0, 3)...)
	w = play(t, w, trips(1, 4)...)
	if w.Nodes[1].Mach.Phase != api.Wait || w.Nodes[1].Mach.Rev != 3 {
		t.Fatalf("it is %v", w.Nodes[1])
	}
	w = play(t, w, move(api.Release, 0))
	w = play(t, w, trips(0, 1)...)
	w = play(t, w, trips(1, 2)...)
	if !slices.Equal(Holders(w), []int{1}) || w.Nodes[1].Mach.Token != 2 {
		t.Errorf("it is %v", w.Nodes[1])
	}
}

// Examples 3 and 4 of the whole: what comes twice is done once, and is old at last.
func TestWhatComesTwiceIsDoneOnce(t *testing.T) {
	w := play(t, made(t, 1, true), start(0, api.Enqueue), move(api.Step, 0), move(api.Copy, 0), move(api.Deliver, 0), move(api.Deliver, 0))
	if len(w.Bag) != 2 || w.Bag[0] != w.Bag[1] || w.Server.Store.Rev != 1 {
		t.Fatalf("it is %v", w)
	}
	w = play(t, w, move(api.Deliver, 0), move(api.Deliver, 0))
	if w.Nodes[0].Mach.Phase != api.Over || len(w.Marks) != 2 {
		t.Fatalf("it is %v", w.Nodes[0])
	}
	w = play(t, w, start(0, api.Enqueue), move(api.Step, 0), move(api.Copy, 0), move(api.Deliver, 0), move(api.Deliver, 1))
	for i := range 4 {
		w = play(t, w, start(0, api.Enqueue), move(api.Step, 0), move(api.Deliver, 1), move(api.Deliver, 1))
		if w.Server.Store.Rev != 3+i {
			t.Fatalf("it is %v", w.Server.Store)
		}
	}
	rev := w.Server.Store.Rev
	w = play(t, w, move(api.Deliver, 0))
	if p, _ := wire.Told(w.Bag[0].Body); p.Code != api.ErrOld || p.Seq != 2 || w.Server.Store.Rev != rev {
		t.Errorf("it is told %v", p)
	}
}

// Examples 5 and 6 of the whole: who is paused for too long is lost, and what it wrote is refused.
func TestWhoIsPausedIsLost(t *testing.T) {
	w := play(t, made(t, 2, true), start(0, api.Mutex), start(1, api.Mutex))
	w = play(t, w, trips(0, 3)...)
	w = play(t, w, put(0, "one")...)
	w = play(t, w, api.Move{Kind: api.Put, Value: "late"}, move(api.Pause, 0))
	for range 14 {
		w = play(t, w, ticks(1)...)
		w = play(t, w, move(api.Step, 1))
		for len(w.Bag) > 1 {
			w = play(t, w, move(api.Deliver, 1))
		}
	}
	for range 3 {
		w = play(t, w, move(api.Step, 1))
		for len(w.Bag) > 1 {
			w = play(t, w, move(api.Deliver, 1))
		}
	}
	if !slices.Equal(Holders(w), []int{1}) {
		t.Fatalf("it is %v", w.Nodes)
	}
	w = play(t, w, api.Move{Kind: api.Put, N: 1, Value: "two"}, move(api.Deliver, 1), move(api.Deliver, 0), move(api.Resume, 0), move(api.Step, 0))
	last := w.Marks[len(w.Marks)-1]
	if w.Res.Value != "two" || len(w.Res.Log) != 2 || w.Nodes[0].Mach.Err != api.ErrLost || last.Kind != api.Returned || last.Who != 0 || last.Alive {
		t.Errorf("it is %v, %v", w.Res, w.Nodes[0])
	}
}

// Example 7 of the whole: by a clock that stands still two hold, and the fence takes the later one's writes alone.
func TestAClockThatStandsStill(t *testing.T) {
	w := play(t, made(t, 2, false), start(0, api.Mutex), start(1, api.Mutex))
	w = play(t, w, trips(0, 3)...)
	w = play(t, w, ticks(4, 64, 0)...)
	w = play(t, w, trips(1, 3)...)
	if !slices.Equal(Holders(w), []int{0, 1}) {
		t.Fatalf("%v hold", Holders(w))
	}
	w = play(t, w, put(0, "a")...)
	w = play(t, w, put(1, "b")...)
	w = play(t, w, put(0, "c")...)
	if w.Res.Value != "b" || w.Res.High != 3 || len(w.Res.Log) != 2 {
		t.Errorf("it is %v", w.Res)
	}
	// A strict one can't: by then it is over.
	w = play(t, made(t, 2, true), start(0, api.Mutex), start(1, api.Mutex))
	w = play(t, w, trips(0, 3)...)
	w = play(t, w, ticks(12, 17, 15)...)
	if len(Holders(w)) != 0 || len(w.Server.Leases.L) != 0 {
		t.Errorf("%v hold", Holders(w))
	}
	w = play(t, made(t, 2, true), start(0, api.Mutex))
	w = play(t, w, trips(0, 3)...)
	w = play(t, w, ticks(11, 17, 15)...)
	if len(Holders(w)) != 1 || len(w.Server.Leases.L) != 1 {
		t.Errorf("%v hold", Holders(w))
	}
}

// Example 8 of the whole: a party of three.
func TestAPartyOfThree(t *testing.T) {
	w := made(t, 3, true)
	for n := range 3 {
		w = play(t, w, api.Move{Kind: api.Start, N: n, Mach: api.Machine{Kind: api.Party, Name: "x", N: 3}})
	}
	w = play(t, w, trips(0, 4)...)
	w = play(t, w, trips(1, 4)...)
	if w.Nodes[0].Mach.Phase != api.Wait || w.Nodes[1].Mach.Phase != api.Wait {
		t.Fatalf("it is %v", w.Nodes)
	}
	w = play(t, w, trips(2, 4)...)
	w = play(t, w, trips(0, 2)...)
	w = play(t, w, trips(1, 2)...)
	if !slices.Equal(Holders(w), []int{0, 1, 2}) || len(w.Marks) != 6 {
		t.Fatalf("%v hold: %v", Holders(w), w.Marks)
	}
	for n := range 3 {
		w = play(t, w, move(api.Release, n))
		w = play(t, w, trips(n, 2)...)
		if want := []int{api.Left, api.Left, api.Over}[n]; w.Nodes[n].Mach.Phase != want {
			t.Fatalf("of %d it is %v", n, w.Nodes[n].Mach)
		}
	}
	w = play(t, w, trips(0, 1)...)
	w = play(t, w, trips(1, 1)...)
	if w.Nodes[0].Mach.Phase != api.Over || w.Nodes[1].Mach.Phase != api.Over {
		t.Errorf("it is %v", w.Nodes)
	}
}

// Example 9 of the whole: two put, two take.
func TestTwoPutTwoTake(t *testing.T) {
	w := made(t, 4, true)
	for n := range 4 {
		kind := []int{api.Enqueue, api.Enqueue, api.Dequeue, api.Dequeue}[n]
		w = play(t, w, api.Move{Kind: api.Start, N: n, Mach: api.Machine{Kind: kind, Name: "x", Value: fmt.Sprint("v", n)}})
	}
	w = play(t, w, trips(1, 1)...)
	w = play(t, w, trips(0, 1)...)
	w = play(t, w, trips(2, 1)...)
	w = play(t, w, trips(3, 2)...)
	// It was faster, so the other one has to look again.
	w = play(t, w, trips(2, 3)...)
	if a, b := w.Nodes[3].Mach, w.Nodes[2].Mach; a.Value != "v1" || a.Token != 1 || b.Value != "v0" || b.Token != 2 || a.Phase != api.Over || b.Phase != api.Over {
		t.Errorf("it is %v and %v", a, b)
	}
}

// R5, R6: what is handed in is not changed, what was told is changed by nobody, and the same again is the same.
func TestNothingIsChanged(t *testing.T) {
	w := play(t, made(t, 4, true), start(0, api.Mutex), start(1, api.Leader), start(2, api.Enqueue))
	w = play(t, w, trips(0, 3)...)
	w = play(t, w, trips(1, 3)...)
	w = play(t, w, move(api.Step, 2), move(api.Copy, 0), move(api.Deliver, 0), api.Move{Kind: api.Put, Value: "v"})
	// There is room behind all lists, into which nobody may write.
	w.Bag, w.Marks, w.Nodes, w.Res.Log = slices.Grow(w.Bag, 9), slices.Grow(w.Marks, 9), slices.Grow(w.Nodes, 9), slices.Grow(w.Res.Log, 9)
	w.Server.Store.Log, w.Server.Leases.L = slices.Grow(w.Server.Store.Log, 9), slices.Grow(w.Server.Leases.L, 9)
	text := fmt.Sprint(w)
	var moves []api.Move
	for kind := 0; kind <= 15; kind++ {
		for n := -1; n <= 4; n++ {
			moves = append(moves, api.Move{Kind: kind, N: n, By: []int{n, 17}, Mach: api.Machine{Kind: 1, Name: "y"}, Value: fmt.Sprint(n)})
		}
	}
	var worlds []api.World
	var errs []api.Errno
	var texts []string
	for _, m := range moves {
		got, e := Do(w, m)
		worlds, errs, texts = append(worlds, got), append(errs, e), append(texts, fmt.Sprint(got, e))
	}
	for i, m := range moves {
		if fmt.Sprint(worlds[i], errs[i]) != texts[i] {
			t.Errorf("of %v it is now %v", m, worlds[i])
		}
	}
	for i, m := range moves {
		if got, e := Do(w, m); fmt.Sprint(got, e) != texts[i] {
			t.Errorf("of %v it is another one: %v", m, got)
		}
	}
	Play(w, moves)
	Holders(w)
	if fmt.Sprint(w) != text {
		t.Errorf("what was handed in is now %v", w)
	}
}

// R1: numbers from both ends and worlds of anything are no reason to panic.
func TestNothingPanics(t *testing.T) {
	numbers := []int{math.MinInt, -1, 0, 1, 4, 99, maxNumber, math.MaxInt}
	held := play(t, made(t, 2, true), start(0, api.Mutex), start(1, api.Party))
	held = play(t, held, trips(0, 3)...)
	worlds := []api.World{{}, made(t, 4, false), held}
	for _, a := range numbers {
		m := api.Machine{Kind: a, Name: "x", N: a, Lease: a, Phase: a, Token: a, Rev: a, Err: api.Errno(a)}
		c := api.Call{On: true, Sent: a, Next: a, Tries: a, Req: api.Req{Kind: a, Who: a, Seq: a}}
		n := api.Node{Life: a, Clock: a, Seq: a, Sess: api.Sess{Lease: a, TTL: a, Until: a, Keep: a}, Main: c, Side: c, Mach: m}
		w := api.World{Strict: a > 0, Time: a, Server: api.Server{Clock: a}, Res: api.Resource{High: a}, Nodes: make([]api.Node, 20), Marks: make([]api.Mark, 3)}
		w.Server.Store = api.Store{Rev: a, Low: a, Base: make([]api.KV, 40), Log: []api.Event{{Rev: a}, {Rev: a}}}
		w.Server.Leases = api.Leases{Next: a, L: []api.Lease{{Id: a, TTL: a, Until: a}}}
		w.Nodes[0], w.Nodes[1], w.Nodes[18] = n, n, n
		for _, to := range numbers {
			w.Bag = append(w.Bag, held.Bag...)
			w.Bag = append(w.Bag, api.Msg{From: a, To: to, Body: tellsOf(api.Reply{})}, api.Msg{From: to, To: a})
		}
		worlds = append(worlds, w)
	}
	for _, w := range worlds {
		var l []api.Move
		for kind := -1; kind <= 16; kind++ {
			for _, n := range []int{math.MinInt, -1, 0, 1, 2, 3, 5, 18, 99, math.MaxInt} {
				l = append(l, api.Move{Kind: kind, N: n, By: numbers, Mach: api.Machine{Kind: n, Name: "x", N: n}, Value: strings.Repeat("v", 30)}, api.Move{Kind: kind, N: n, Mach: api.Machine{Kind: 7, Name: "x"}})
			}
		}
		Play(w, l)
		Holders(w)
		New(w.Time, true)
	}
}
