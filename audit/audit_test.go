package audit

import (
	"fmt"
	"math"
	"math/rand"
	"slices"
	"testing"

	"baton/api"
	"baton/fence"
	"baton/key"
	"baton/world"
)

// holder is a client that holds.
func holder(kind int, name string, n int) api.Node {
	return api.Node{Clock: 50, Sess: api.Sess{Lease: 3, Until: 51}, Mach: api.Machine{Kind: kind, Name: name, N: n, Phase: api.Held, Lease: 3}}
}

// one is a client that holds what has the name "a".
func one(kind int) api.Node {
	return holder(kind, "a", 1)
}

// dead is a client whose session is over.
func dead(kind int) api.Node {
	n := one(kind)
	n.Clock = 51
	return n
}

// mark is one of a kind and name.
func mark(of int, who int, kind int, name string, token int) api.Mark {
	return api.Mark{Kind: of, Who: who, Mach: api.Machine{Kind: kind, Name: name, Token: token}}
}

// got is a mark that a token was granted.
func got(kind int, name string, token int) api.Mark {
	return mark(api.Got, 1, kind, name, token)
}

// over is a mark that something was taken out of a queue.
func over(name string, token int) api.Mark {
	m := mark(api.Returned, 1, api.Dequeue, name, token)
	m.Mach.Phase = api.Over
	return m
}

// res is a resource that took those writes.
func res(t *testing.T, l ...api.Accept) api.Resource {
	t.Helper()
	var r api.Resource
	for _, a := range l {
		next, e := fence.Write(r, a.Who, a.Token, a.Value)
		if e != api.OK {
			t.Fatalf("%v is refused: %d", a, e)
		}
		r = next
	}
	return r
}

// goods holds Good of w against what it is to be of a loose world, and of a strict one.
func goods(t *testing.T, what string, w api.World, loose bool, strict bool) {
	t.Helper()
	w.Strict = false
	if e := Good(w); (e == api.OK) != loose || e != api.OK && e != api.ErrBreach {
		t.Errorf("P23.4: %s: of a loose one it is %d", what, e)
	}
	w.Strict = true
	if e := Good(w); (e == api.OK) != strict || e != api.OK && e != api.ErrBreach {
		t.Errorf("P23.4: %s: of a strict one it is %d", what, e)
	}
}

// The chapter's example.
func TestANewWorld(t *testing.T) {
	for _, strict := range []bool{true, false} {
		for nodes := 1; nodes <= 4; nodes++ {
			w, _ := world.New(nodes, strict)
			if a, b := Clash(w); a != -1 || b != -1 || Crowd(w) != -1 || Forged(w) != -1 || Falling(w, api.Mutex, "a") != -1 || Twice(w) != -1 || Good(w) != api.OK {
				t.Errorf("of a new world it is %d %d, %d, %d, %d, %d, %d", a, b, Crowd(w), Forged(w), Falling(w, api.Mutex, "a"), Twice(w), Good(w))
			}
		}
	}
}

// P23.1: which two clash.
func TestClashOfKinds(t *testing.T) {
	clashes := map[[2]int]bool{
		{1, 1}: true, {2, 3}: true, {3, 2}: true, {3, 3}: true, {5, 5}: true,
		{7, 7}: true, {7, 8}: true, {8, 7}: true, {8, 8}: true,
	}
	for a := -1; a <= 10; a++ {
		for b := -1; b <= 10; b++ {
			w := api.World{Nodes: []api.Node{one(a), one(b)}}
			i, j := Clash(w)
			if want := clashes[[2]int{a, b}]; (i == 0 && j == 1) != want || !want && (i != -1 || j != -1) {
				t.Errorf("P23.1: of %d and %d it is %d, %d", a, b, i, j)
			}
			// Of other names they don't.
			w.Nodes[1].Mach.Name = "b"
			if i, j := Clash(w); i != -1 || j != -1 {
				t.Errorf("P23.1: of %d and %d and two names it is %d, %d", a, b, i, j)
			}
			// Nor of a name that is none.
			w.Nodes[0].Mach.Name, w.Nodes[1].Mach.Name = "A", "A"
			if i, j := Clash(w); i != -1 || j != -1 {
				t.Errorf("P23.1: of %d and %d and no name it is %d, %d", a, b, i, j)
			}
		}
	}
}

// P23.1: which two are the first ones.
func TestClash(t *testing.T) {
	m, r, w, l, p := one(api.Mutex), one(api.Reader), one(api.Writer), one(api.Leader), one(api.Permit)
	other := holder(api.Mutex, "b", 0)
	says := one(api.Leader)
	says.Mach.Phase = api.Say
	waits := one(api.Mutex)
	waits.Mach.Phase = api.Wait
	for i, c := range []struct {
		l    []api.Node
		a, b int
	}{
		{nil, -1, -1}, {[]api.Node{m}, -1, -1}, {[]api.Node{m, m}, 0, 1}, {[]api.Node{m, m, m}, 0, 1}, {[]api.Node{m, other, m}, 0, 2}, {[]api.Node{other, m, {}, m}, 1, 3},
		{[]api.Node{dead(1), m}, -1, -1}, {[]api.Node{dead(1), m, m}, 1, 2}, {[]api.Node{m, dead(1)}, -1, -1}, {[]api.Node{waits, m}, -1, -1}, {[]api.Node{m, waits, m}, 0, 2},
		{[]api.Node{r, r, w}, 0, 2}, {[]api.Node{r, r, r}, -1, -1}, {[]api.Node{r, w, w}, 0, 1}, {[]api.Node{p, r, p, r, w}, 1, 4}, {[]api.Node{w, r, w}, 0, 1},
		// The lesser number counts first: 0 and 3, though 1 and 2 clash, too.
		{[]api.Node{m, l, l, m}, 0, 3}, {[]api.Node{p, l, m, m, l}, 1, 4}, {[]api.Node{l, says}, 0, 1}, {[]api.Node{says, p, says}, 0, 2},
	} {
		w := api.World{Nodes: c.l}
		if a, b := Clash(w); a != c.a || b != c.b {
			t.Errorf("P23.1: case %d: it is %d, %d", i, a, b)
		}
		goods(t, fmt.Sprint("clash ", i), w, true, c.a < 0)
	}
}

// P23.1
func TestCrowd(t *testing.T) {
	p := func(name string, n int) api.Node { return holder(api.Permit, name, n) }
	for i, c := range []struct {
		l    []api.Node
		want int
	}{
		{nil, -1}, {[]api.Node{p("a", 1)}, -1}, {[]api.Node{p("a", 1), p("a", 1)}, 0}, {[]api.Node{p("a", 1), p("a", 2)}, -1}, {[]api.Node{p("a", 2), p("a", 1)}, -1},
		{[]api.Node{p("a", 2), p("a", 1), p("a", 2)}, 0}, {[]api.Node{p("a", 1), p("a", 3), p("a", 1)}, -1}, {[]api.Node{p("a", 1), p("b", 1)}, -1}, {[]api.Node{p("b", 1), p("a", 1), p("a", 1)}, 1},
		{[]api.Node{one(1), one(4), one(1), one(4)}, 1}, {[]api.Node{one(1), one(1), one(3), one(3), one(6), one(6)}, -1}, {[]api.Node{p("a", 1), dead(4)}, -1}, {[]api.Node{dead(4), p("a", 1), p("a", 1)}, 1},
		// Of those who don't hold N doesn't count, nor of other kinds.
		{[]api.Node{p("a", 1), p("a", 1), {Mach: api.Machine{Kind: 4, Name: "a", N: 9}}}, 0}, {[]api.Node{p("a", 1), p("a", 1), holder(api.Mutex, "a", 9)}, 0},
		// N and names that may not be are held against what there is as they stand.
		{[]api.Node{p("a", 0)}, 0}, {[]api.Node{p("a", -3)}, 0}, {[]api.Node{p("a", -3), p("a", 2)}, -1}, {[]api.Node{p("A?", 1), p("A?", 1)}, 0}, {[]api.Node{p("", math.MinInt)}, 0}, {[]api.Node{p("a", math.MaxInt), p("a", math.MinInt)}, -1},
	} {
		w := api.World{Nodes: c.l}
		if got := Crowd(w); got != c.want {
			t.Errorf("P23.1: case %d: it is %d", i, got)
		}
		if a, _ := Clash(w); a < 0 {
			goods(t, fmt.Sprint("crowd ", i), w, true, c.want < 0)
		}
	}
}

// P23.2
func TestForged(t *testing.T) {
	a := func(who, token int) api.Accept { return api.Accept{Who: who, Token: token, Value: "v"} }
	g := func(who, token int) api.Mark { return mark(api.Got, who, api.Permit, "a", token) }
	for i, c := range []struct {
		log   []api.Accept
		marks []api.Mark
		want  int
	}{
		{nil, nil, -1}, {nil, []api.Mark{g(1, 5)}, -1}, {[]api.Accept{a(1, 5)}, nil, 0}, {[]api.Accept{a(1, 5)}, []api.Mark{g(1, 5)}, -1}, {[]api.Accept{a(1, 5), a(1, 5)}, []api.Mark{g(1, 5)}, -1},
		{[]api.Accept{a(1, 5)}, []api.Mark{g(2, 5)}, 0}, {[]api.Accept{a(1, 5)}, []api.Mark{g(1, 4)}, 0}, {[]api.Accept{a(1, 5)}, []api.Mark{g(2, 5), g(1, 4)}, 0}, {[]api.Accept{a(1, 5), a(2, 6)}, []api.Mark{g(2, 6), g(1, 5)}, -1},
		{[]api.Accept{a(1, 5), a(2, 6), a(3, 7)}, []api.Mark{g(1, 5)}, 1}, {[]api.Accept{a(1, 5), a(2, 6), a(3, 7)}, []api.Mark{g(1, 5), g(2, 6)}, 2}, {[]api.Accept{a(0, 5)}, []api.Mark{g(0, 5)}, -1},
		// Only Got is a grant, of whatever kind.
		{[]api.Accept{a(1, 5)}, []api.Mark{mark(api.Called, 1, 1, "a", 5), mark(api.Let, 1, 1, "a", 5), mark(api.Returned, 1, 1, "a", 5), mark(0, 1, 1, "a", 5)}, 0}, {[]api.Accept{a(1, 5)}, []api.Mark{mark(api.Got, 1, 0, "", 5)}, -1}, {[]api.Accept{a(1, 5)}, []api.Mark{mark(api.Got, 1, api.Party, "b", 5)}, -1},
	} {
		w := api.World{Res: res(t, c.log...), Marks: c.marks}
		if got := Forged(w); got != c.want {
			t.Errorf("P23.2: case %d: it is %d", i, got)
		}
		goods(t, fmt.Sprint("forged ", i), w, c.want < 0, c.want < 0)
	}
}

// P23.3
func TestFalling(t *testing.T) {
	for kind := -1; kind <= 10; kind++ {
		g := func(token int) api.Mark { return got(kind, "a", token) }
		other, b := got(kind+1, "a", 1), got(kind, "b", 1)
		for i, c := range []struct {
			marks []api.Mark
			want  int
		}{
			{nil, -1}, {[]api.Mark{g(5)}, -1}, {[]api.Mark{g(-5)}, -1}, {[]api.Mark{g(0)}, -1}, {[]api.Mark{g(5), g(6)}, -1}, {[]api.Mark{g(5), g(5)}, 1}, {[]api.Mark{g(5), g(4)}, 1}, {[]api.Mark{g(5), g(4), g(3)}, 1},
			{[]api.Mark{g(5), g(7), g(6)}, 2}, {[]api.Mark{g(1), other, g(2), b, g(3)}, -1}, {[]api.Mark{g(5), other, b, g(5)}, 3}, {[]api.Mark{other, b, g(5), g(8), b, g(7)}, 5},
			// What is no grant counts neither way.
			{[]api.Mark{g(5), mark(api.Called, 1, kind, "a", 1), g(6), mark(api.Returned, 1, kind, "a", 0), mark(api.Let, 1, kind, "a", 0), mark(0, 1, kind, "a", 0)}, -1}, {[]api.Mark{g(5), mark(api.Called, 1, kind, "a", 9), g(6)}, -1},
			{[]api.Mark{g(math.MinInt), g(math.MaxInt)}, -1}, {[]api.Mark{g(math.MaxInt), g(math.MinInt)}, 1},
		} {
			w := api.World{Marks: c.marks}
			if got := Falling(w, kind, "a"); got != c.want {
				t.Errorf("P23.3: case %d of kind %d: it is %d", i, kind, got)
			}
			if got := Falling(w, kind, "c"); got != -1 {
				t.Errorf("P23.3: case %d of kind %d: of another name it is %d", i, kind, got)
			}
		}
		alone := kind == api.Mutex || kind == api.Writer || kind == api.Leader
		goods(t, fmt.Sprint("falling ", kind), api.World{Marks: []api.Mark{g(5), g(4)}}, true, !alone)
		goods(t, fmt.Sprint("the same ", kind), api.World{Marks: []api.Mark{g(5), other, b, g(5)}}, true, !alone)
		goods(t, fmt.Sprint("rising ", kind), api.World{Marks: []api.Mark{g(5), b, g(6)}}, true, true)
	}
	// Each name has its own, also one that may not be.
	for _, name := range []string{"a", "b", "", "A?"} {
		w := api.World{Marks: []api.Mark{got(1, "a", 9), got(1, "b", 8), got(1, "", 7), got(1, "A?", 6), got(1, name, 1)}}
		if at := Falling(w, 1, name); at != 4 {
			t.Errorf("P23.3: of %q it is %d", name, at)
		}
		goods(t, "of a name "+name, w, true, false)
	}
}

// P23.3
func TestTwice(t *testing.T) {
	failed, put, called, granted := over("a", 4), over("a", 4), over("a", 4), over("a", 4)
	failed.Mach.Phase, put.Mach.Kind, called.Kind, granted.Kind = api.Failed, api.Enqueue, api.Called, api.Got
	another := over("a", 4)
	another.Who, another.At, another.Alive, another.Mach.Key, another.Mach.Value = 9, 9, true, "k", "w"
	for i, c := range []struct {
		marks []api.Mark
		want  int
	}{
		{nil, -1}, {[]api.Mark{over("a", 4)}, -1}, {[]api.Mark{over("a", 4), over("a", 4)}, 1}, {[]api.Mark{over("a", 4), over("a", 3)}, -1}, {[]api.Mark{over("a", 4), over("b", 4)}, -1}, {[]api.Mark{over("a", 4), over("b", 4), over("b", 3), over("a", 4)}, 3},
		{[]api.Mark{over("b", 1), over("a", 4), over("a", 4), over("b", 1)}, 2}, {[]api.Mark{over("a", 4), another}, 1}, {[]api.Mark{over("a", 0), over("a", 0)}, 1}, {[]api.Mark{over("", -1), over("", -1)}, 1},
		{[]api.Mark{failed, over("a", 4), failed}, -1}, {[]api.Mark{put, over("a", 4), put}, -1}, {[]api.Mark{called, over("a", 4), called}, -1}, {[]api.Mark{granted, over("a", 4), granted}, -1}, {[]api.Mark{over("a", 4), failed, put, called, over("a", 4)}, 4},
	} {
		w := api.World{Marks: c.marks}
		if got := Twice(w); got != c.want {
			t.Errorf("P23.3: case %d: it is %d", i, got)
		}
		goods(t, fmt.Sprint("twice ", i), w, c.want < 0, c.want < 0)
	}
}

// P23.4: a resource that may not be is no good, though each of its writes was granted.
func TestGoodOfResources(t *testing.T) {
	marks := []api.Mark{got(api.Permit, "a", 5), got(api.Permit, "a", 4)}
	taken := api.Accept{Who: 1, Token: 5, Value: "v"}
	falling := api.Accept{Who: 1, Token: 4, Value: "v"}
	for i, c := range []struct {
		r    api.Resource
		good bool
	}{
		{api.Resource{}, true}, {api.Resource{High: 5, Value: "v", Log: []api.Accept{taken}}, true}, {api.Resource{High: 1}, false}, {api.Resource{Value: "v"}, false},
		{api.Resource{High: 6, Value: "v", Log: []api.Accept{taken}}, false}, {api.Resource{High: 5, Value: "w", Log: []api.Accept{taken}}, false}, {api.Resource{High: 4, Value: "v", Log: []api.Accept{taken, falling}}, false}, {api.Resource{High: 5, Value: "v", Log: []api.Accept{falling, taken}}, true},
	} {
		goods(t, fmt.Sprint("resource ", i), api.World{Res: c.r, Marks: marks}, c.good, c.good)
	}
}

// P23.5
func TestWatched(t *testing.T) {
	w, _ := world.New(2, true)
	tick, none := api.Move{Kind: api.Tick}, api.Move{}
	start := api.Move{Kind: api.Start, Mach: api.Machine{Kind: api.Mutex, Name: "a"}}
	// Two hold at once, till one of them crashes.
	clash := w
	clash.Nodes = []api.Node{one(1), one(1)}
	lost := api.Move{Kind: api.Crash, N: 1}
	forged := w
	forged.Bag = []api.Msg{{From: 2, To: 1, Body: written(t, w)}}
	deliver := api.Move{Kind: api.Deliver}
	for i, c := range []struct {
		w  api.World
		l  []api.Move
		at int
		e  api.Errno
	}{
		{w, nil, 0, api.OK}, {w, []api.Move{tick}, 1, api.OK}, {w, []api.Move{tick, none, start, start}, 4, api.OK}, {api.World{}, []api.Move{none, tick, none}, 3, api.OK},
		// What holds ahead of all moves isn't asked.
		{clash, nil, 0, api.OK}, {clash, []api.Move{lost}, 1, api.OK}, {clash, []api.Move{none, lost}, 0, api.ErrBreach}, {clash, []api.Move{{Kind: api.Pause}, lost}, 0, api.ErrBreach},
		{forged, []api.Move{deliver}, 0, api.ErrBreach}, {forged, []api.Move{tick, none, deliver, tick}, 2, api.ErrBreach}, {forged, []api.Move{{Kind: api.Drop}, deliver}, 2, api.OK},
	} {
		if at, e := Watched(c.w, c.l); at != c.at || e != c.e {
			t.Errorf("P23.5: case %d: it is %d, %d", i, at, e)
		}
	}
}

// written is a write with a token that nobody was granted.
func written(t *testing.T, w api.World) string {
	t.Helper()
	w.Nodes = slices.Clone(w.Nodes)
	w.Nodes[0].Mach = api.Machine{Kind: api.Mutex, Name: "a", Phase: api.Held, Token: 7}
	w, e := world.Do(w, api.Move{Kind: api.Put, Value: "v"})
	if e != api.OK {
		t.Fatalf("there is no write: %d", e)
	}
	return w.Bag[0].Body
}

// P23.1 to P23.4, of worlds of anything, by their words alone.
func TestByTheWords(t *testing.T) {
	random := rand.New(rand.NewSource(23))
	count := map[string]int{}
	for range 30000 {
		w := anything(random)
		a, b := clashing(w)
		crowd, forged, twice := crowded(w), unheard(w), again(w)
		if x, y := Clash(w); x != a || y != b {
			t.Fatalf("P23.1: of %v it is %d, %d", w.Nodes, x, y)
		}
		if x := Crowd(w); x != crowd {
			t.Fatalf("P23.1: of %v it is %d", w.Nodes, x)
		}
		if x := Forged(w); x != forged {
			t.Fatalf("P23.2: of %v, %v it is %d", w.Res, w.Marks, x)
		}
		if x := Twice(w); x != twice {
			t.Fatalf("P23.3: of %v it is %d", w.Marks, x)
		}
		good := forged < 0 && twice < 0 && fence.May(w.Res) && (!w.Strict || a < 0 && crowd < 0)
		for kind := 0; kind <= 9; kind++ {
			for _, name := range []string{"a", "b", "?"} {
				at := fallen(w, kind, name)
				if x := Falling(w, kind, name); x != at {
					t.Fatalf("P23.3: of %v, %d, %q it is %d", w.Marks, kind, name, x)
				}
				if w.Strict && at >= 0 && (kind == 1 || kind == 3 || kind == 5) {
					good = false
				}
			}
		}
		if e := Good(w); (e == api.OK) != good {
			t.Fatalf("P23.4: of %v it is %d", w, e)
		}
		count[fmt.Sprint("good ", good)]++
		count[fmt.Sprint("clash ", a >= 0)]++
		count[fmt.Sprint("crowd ", crowd >= 0)]++
		count[fmt.Sprint("forged ", forged >= 0)]++
		count[fmt.Sprint("twice ", twice >= 0)]++
	}
	for _, what := range []string{"good", "clash", "crowd", "forged", "twice"} {
		if count[what+" true"] < 500 || count[what+" false"] < 500 {
			t.Errorf("of %s there were %d and %d", what, count[what+" true"], count[what+" false"])
		}
	}
}

// anything is a world of anything.
func anything(random *rand.Rand) api.World {
	name := func() string { return []string{"a", "a", "b", "?"}[random.Intn(4)] }
	w := api.World{Strict: random.Intn(2) == 0}
	for range random.Intn(7) {
		n := holder(random.Intn(10), name(), random.Intn(4))
		n.Clock += random.Intn(3) / 2
		n.Mach.Phase = []int{api.Held, api.Held, api.Say, api.Wait}[random.Intn(4)]
		w.Nodes = append(w.Nodes, n)
	}
	for range random.Intn(8) {
		m := mark(1+random.Intn(4), random.Intn(2), random.Intn(10), name(), 1+random.Intn(6))
		if random.Intn(3) == 0 {
			m = over(name(), random.Intn(4))
			m.Mach.Phase += random.Intn(4) / 3
		}
		w.Marks = append(w.Marks, m)
		if m.Kind == api.Got && random.Intn(2) == 0 {
			w.Res.Log = append(w.Res.Log, api.Accept{Who: m.Who, Token: m.Mach.Token})
			w.Res.High = m.Mach.Token
		}
	}
	if random.Intn(4) == 0 {
		w.Res.High = random.Intn(7)
		w.Res.Log = append(w.Res.Log, api.Accept{Who: random.Intn(2), Token: w.Res.High})
	}
	return w
}

// clashing is Clash, by its words.
func clashing(w api.World) (int, int) {
	holds := world.Holders(w)
	for _, a := range holds {
		for _, b := range holds {
			x, y := w.Nodes[a].Mach, w.Nodes[b].Mach
			p, is := key.Prefix(x.Kind, x.Name)
			q, too := key.Prefix(y.Kind, y.Name)
			many := x.Kind == api.Permit || y.Kind == api.Permit || x.Kind == api.Party || y.Kind == api.Party
			if a != b && is && too && p == q && !many && !(x.Kind == api.Reader && y.Kind == api.Reader) {
				return a, b
			}
		}
	}
	return -1, -1
}

// crowded is Crowd, by its words.
func crowded(w api.World) int {
	for _, a := range world.Holders(w) {
		n, most := 0, math.MinInt
		for _, b := range world.Holders(w) {
			if m := w.Nodes[b].Mach; m.Kind == api.Permit && m.Name == w.Nodes[a].Mach.Name {
				n, most = n+1, max(most, m.N)
			}
		}
		if w.Nodes[a].Mach.Kind == api.Permit && n > most {
			return a
		}
	}
	return -1
}

// unheard is Forged, by its words.
func unheard(w api.World) int {
	for i, a := range w.Res.Log {
		if !slices.ContainsFunc(w.Marks, func(m api.Mark) bool { return m.Kind == 2 && m.Who == a.Who && m.Mach.Token == a.Token }) {
			return i
		}
	}
	return -1
}

// fallen is Falling, by its words.
func fallen(w api.World, kind int, name string) int {
	var places []int
	for i, m := range w.Marks {
		if m.Kind == 2 && m.Mach.Kind == kind && m.Mach.Name == name {
			places = append(places, i)
		}
	}
	for i, at := range places {
		if i > 0 && w.Marks[at].Mach.Token <= w.Marks[places[i-1]].Mach.Token {
			return at
		}
	}
	return -1
}

// again is Twice, by its words.
func again(w api.World) int {
	is := func(m api.Mark) bool { return m.Kind == 4 && m.Mach.Kind == 8 && m.Mach.Phase == 7 }
	for i, m := range w.Marks {
		for _, x := range w.Marks[:i] {
			if is(m) && is(x) && m.Mach.Token == x.Mach.Token && m.Mach.Name == x.Mach.Name {
				return i
			}
		}
	}
	return -1
}

// P23.6: without clocks that are strict two may hold, and it is good all the same; the fence knows.
func TestTwoMayHold(t *testing.T) {
	trip := []api.Move{{Kind: api.Step}, {Kind: api.Deliver}, {Kind: api.Deliver}}
	other := []api.Move{{Kind: api.Step, N: 1}, {Kind: api.Deliver}, {Kind: api.Deliver}}
	start := api.Machine{Kind: api.Mutex, Name: "a"}
	l := slices.Concat([]api.Move{{Kind: api.Start, Mach: start}}, trip, trip, trip)
	for range 4 {
		l = append(l, api.Move{Kind: api.Tick, By: []int{64, 0}})
	}
	l = slices.Concat(l, []api.Move{{Kind: api.Start, N: 1, Mach: start}}, other, other, other)
	for _, n := range []int{0, 1, 0} {
		l = append(l, api.Move{Kind: api.Put, N: n, Value: fmt.Sprint(n)}, api.Move{Kind: api.Deliver})
	}
	w, _ := world.New(2, false)
	last, _ := world.Play(w, l)
	if a, b := Clash(last); a != 0 || b != 1 || Good(last) != api.OK || len(last.Res.Log) != 2 || last.Res.Value != "1" {
		t.Errorf("P23.6: %d and %d hold, and it is %d: %v", a, b, Good(last), last.Res)
	}
	if at, e := Watched(w, l); at != len(l) || e != api.OK {
		t.Errorf("P23.6: it is %d, %d", at, e)
	}
	// The same of a world that says it is strict is a breach, behind the move by which the second one holds.
	first, _ := world.Play(w, l[:len(l)-7])
	first.Strict = true
	for i := range 3 {
		ahead := make([]api.Move, i)
		if at, e := Watched(first, append(ahead, l[len(l)-7:]...)); at != i || e != api.ErrBreach {
			t.Errorf("P23.5: it is %d, %d", at, e)
		}
		if at, e := Watched(first, ahead); at != i || e != api.OK {
			t.Errorf("P23.5: it is %d, %d", at, e)
		}
	}
}

// R5, R6: what is handed in is not changed, and the same again is the same.
func TestNothingIsChanged(t *testing.T) {
	random := rand.New(rand.NewSource(5))
	moves := []api.Move{{Kind: api.Tick, By: []int{17}}, {Kind: api.Crash}, {Kind: api.Restart}, {Kind: api.Start, Mach: api.Machine{Kind: 1, Name: "a"}}, {Kind: api.Step}}
	for range 300 {
		w := anything(random)
		w.Nodes, w.Marks, w.Res.Log = slices.Grow(w.Nodes, 9), slices.Grow(w.Marks, 9), slices.Grow(w.Res.Log, 9)
		was := fmt.Sprint(w, moves)
		all := func() string {
			a, b := Clash(w)
			at, e := Watched(w, moves)
			return fmt.Sprint(a, b, Crowd(w), Forged(w), Falling(w, 1, "a"), Twice(w), Good(w), at, e)
		}
		if first := all(); all() != first {
			t.Errorf("of %v it is another one", w)
		}
		if fmt.Sprint(w, moves) != was {
			t.Errorf("what was handed in is now %v", w)
		}
	}
}

// R1: numbers from both ends and worlds of anything are no reason to panic.
func TestNothingPanics(t *testing.T) {
	numbers := []int{math.MinInt, -1, 0, 1, 4, 99, math.MaxInt}
	for _, a := range numbers {
		for _, b := range numbers {
			m := api.Machine{Kind: a, Name: "x", N: b, Lease: 3, Phase: api.Held, Token: b}
			n := api.Node{Life: b, Clock: 5, Sess: api.Sess{Lease: 3, Until: b}, Mach: m}
			w := api.World{Strict: true, Time: a, Res: api.Resource{High: a, Log: []api.Accept{{Who: b, Token: a}}}, Nodes: []api.Node{n, n, {}}, Marks: []api.Mark{{At: a, Kind: api.Got, Who: b, Mach: m}, {Kind: b, Mach: m}, {Kind: a}}}
			w.Bag = []api.Msg{{From: a, To: b}, {From: b, To: a, Body: "x"}}
			Clash(w)
			Crowd(w)
			Forged(w)
			Falling(w, a, "x")
			Falling(w, b, "")
			Twice(w)
			Good(w)
			Watched(w, []api.Move{{Kind: a, N: b, By: numbers}, {Kind: api.Tick, By: numbers}, {Kind: api.Deliver, N: 1}, {Kind: b}})
		}
	}
	Watched(api.World{}, nil)
	Good(api.World{Strict: true})
}
