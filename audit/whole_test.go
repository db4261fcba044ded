package audit

import (
	"fmt"
	"math/rand"
	"reflect"
	"slices"
	"testing"

	"baton/api"
	"baton/elect"
	"baton/hist"
	"baton/key"
	"baton/mvcc"
	"baton/ticket"
	"baton/wire"
	"baton/world"
)

// names are those that recipes of a run have.
var names = []string{"a", "b"}

// request is whose request it is, and which one.
type request struct {
	who int
	seq int
}

// run is a world on its way, and what was seen of it.
type run struct {
	t       *testing.T
	seed    int
	random  *rand.Rand
	w       api.World
	kinds   []int
	changed map[request]int
	asked   map[request]string
	told    map[request]string
	owner   map[int]int
	terms   map[string]int
	put     map[int]api.KV
	taken   map[string][]int
	count   map[string]int
}

// newRun is a run of a new world.
func newRun(t *testing.T, seed int, strict bool, count map[string]int) *run {
	w, e := world.New(1+seed/3%4, strict)
	if e != api.OK {
		t.Fatal(e)
	}
	kinds := [][]int{{1}, {2, 3}, {4}, {5}, {6}, {7, 8}, {1, 2, 3, 4, 5, 6, 7, 8}}[seed%7]
	return &run{
		t: t, seed: seed, random: rand.New(rand.NewSource(int64(seed))), w: w, kinds: kinds, count: count,
		changed: map[request]int{}, asked: map[request]string{}, told: map[request]string{}, owner: map[int]int{},
		terms: map[string]int{}, put: map[int]api.KV{}, taken: map[string][]int{},
	}
}

// next is what may happen next.
func (r *run) next() []api.Move {
	n := r.random.Intn(len(r.w.Nodes))
	i := r.message()
	at := r.random.Intn(400)
	switch {
	case at < 30:
		return r.ticks(1)
	case at < 140:
		return []api.Move{{Kind: api.Step, N: n}}
	case at < 280:
		return []api.Move{{Kind: api.Deliver, N: i}}
	case at < 288:
		return []api.Move{{Kind: api.Drop, N: i}}
	case at < 303:
		return []api.Move{{Kind: api.Copy, N: r.random.Intn(len(r.w.Bag) + 1)}}
	case at < 340:
		m := api.Machine{Kind: r.kinds[r.random.Intn(len(r.kinds))], Name: names[r.random.Intn(8)/7], N: 1 + r.random.Intn(3), Value: fmt.Sprint("v", r.w.Time)}
		return []api.Move{{Kind: api.Start, N: n, Mach: m}}
	case at < 355:
		return []api.Move{{Kind: api.Release, N: n}}
	case at < 362:
		return []api.Move{{Kind: api.Tell, N: n, Value: fmt.Sprint(at)}}
	case at < 378:
		return []api.Move{{Kind: api.Put, N: n, Value: fmt.Sprint(at)}}
	case at < 380:
		return []api.Move{{Kind: api.Shrink, N: r.w.Server.Store.Rev + 2 - r.random.Intn(20)}}
	case at < 383:
		return []api.Move{{Kind: api.Crash, N: n}}
	case at < 390:
		return []api.Move{{Kind: api.Restart, N: n}}
	case at < 393:
		return append([]api.Move{{Kind: api.Pause, N: n}}, r.ticks(r.random.Intn(16))...)
	case at < 398:
		return []api.Move{{Kind: api.Resume, N: n}}
	}
	return r.ticks(r.random.Intn(16))
}

// message is the number of one that comes next: in some runs of any one, in others mostly of the latest, so that others come very late.
func (r *run) message() int {
	if r.seed%3 > 0 && r.random.Intn(20) > 0 {
		return len(r.w.Bag) - 1
	}
	return r.random.Intn(len(r.w.Bag) + 1)
}

// ticks are so many; in most runs all clocks go as unlike one another as they may.
func (r *run) ticks(times int) []api.Move {
	by := [][]int{{17, 15, 15, 15, 15}, {15, 17, 17, 17, 17}, {17, 15, 17, 15, 17}, {64, 0, 64, 0, 64}, {40, 64, 0, 64, 0}, {64, 10, 0, 64, 0}}[r.seed%2*3+r.seed/2%3]
	if r.random.Intn(8) == 0 {
		by = nil
	}
	var l []api.Move
	for range times {
		l = append(l, api.Move{Kind: api.Tick, By: by})
		for range 5 - len(by) {
			at := &l[len(l)-1]
			at.By = append(at.By, r.random.Intn(70))
		}
	}
	return l
}

// fails ends the run.
func (r *run) fails(what string, l ...any) {
	r.t.Helper()
	r.t.Fatalf("of seed %d, at %d: %s: %s", r.seed, r.w.Time, what, fmt.Sprint(l...))
}

// do plays one move, and looks at what came of it.
func (r *run) do(m api.Move) {
	was := r.w
	w, e := world.Do(was, m)
	if e != api.OK {
		return
	}
	r.w = w
	if m.Kind == api.Deliver {
		r.fenced(was, was.Bag[m.N])
		r.once(was, was.Bag[m.N])
	}
	r.one()
	r.order(was)
	if e := Good(w); e != api.OK {
		r.fails("P23.6", e, w.Nodes, w.Marks, w.Res)
	}
}

// P1: a write of a token that is over changes nothing, tokens never fall, and each was granted to who wrote it.
func (r *run) fenced(was api.World, m api.Msg) {
	q, is := wire.Asked(m.Body)
	if m.To != 1 || !is {
		return
	}
	if q.Token < was.Res.High {
		r.count["stale"]++
		if !reflect.DeepEqual(r.w.Res, was.Res) {
			r.fails("P1: over, and taken", q)
		}
	}
	before := len(was.Res.Log)
	if len(r.w.Res.Log) == before {
		return
	}
	r.count["written"]++
	a := r.w.Res.Log[before]
	granted := slices.ContainsFunc(r.w.Marks, func(k api.Mark) bool {
		return k.Kind == api.Got && k.Who == a.Who && k.Mach.Token == a.Token
	})
	if !granted || r.w.Res.High < was.Res.High || r.w.Res.High != a.Token || a.Who != q.Who || a.Token != q.Token {
		r.fails("P1", a, r.w.Marks)
	}
}

// P2: what is Once changes the store at most once, and is told as it was.
func (r *run) once(was api.World, m api.Msg) {
	q, is := wire.Asked(m.Body)
	if m.To != 0 || !is || !q.Once {
		return
	}
	of := request{q.Who, q.Seq}
	if body, again := r.asked[of]; again {
		r.count["again"]++
		if body != m.Body {
			r.fails("P2: two requests", q)
		}
	}
	r.asked[of] = m.Body
	if !reflect.DeepEqual(r.w.Server.Store, was.Server.Store) || !reflect.DeepEqual(r.w.Server.Leases, was.Server.Leases) {
		r.changed[of]++
		if r.changed[of] > 1 {
			r.fails("P2: done once more", q)
		}
	}
	reply := r.w.Bag[len(r.w.Bag)-1].Body
	p, is := wire.Told(reply)
	switch told, again := r.told[of]; {
	case !is || p.Who != q.Who || p.Seq != q.Seq:
		r.fails("P2: no reply", p)
	case again && p.Code == api.ErrOld:
		r.count["old"]++
	case again && reply != told:
		r.fails("P2: it is told", p)
	case p.Code == api.OK:
		r.told[of] = reply
	}
}

// P3: of a strict world: no two hold at once that may not, each has its ticket in the store, the first one, and a lease is one client's.
func (r *run) one() {
	now := mvcc.Now(r.w.Server.Store)
	var l []api.Machine
	for _, i := range world.Holders(r.w) {
		n := r.w.Nodes[i]
		r.count[fmt.Sprint("holds ", n.Mach.Kind)]++
		l = append(l, n.Mach)
		x, is := hist.Find(now, n.Mach.Key)
		prefix, _ := key.Prefix(n.Mach.Kind, n.Mach.Name)
		ready := ticket.Ready(n.Mach.Kind, n.Mach.N, hist.From(now, prefix), n.Mach.Key)
		if r.w.Strict && (!is || x.Create != n.Mach.Token || x.Lease != n.Sess.Lease || !ready && n.Mach.Kind != api.Party) {
			r.fails("P3: it holds", n, now)
		}
	}
	if !together(l) {
		r.count["two"]++
		if r.w.Strict {
			r.fails("P3: they hold", l)
		}
	}
	for i, n := range r.w.Nodes {
		who := 16*n.Life + i
		if owner, is := r.owner[n.Sess.Lease]; n.Sess.Lease != 0 && is && owner != who {
			r.fails("P3: a lease of two", n, owner)
		}
		r.owner[n.Sess.Lease] = who
	}
}

// together tells whether all of l may be held at once.
func together(l []api.Machine) bool {
	count := map[string]int{}
	for _, m := range l {
		count[fmt.Sprint(m.Kind, m.Name)]++
		most := count[fmt.Sprint("most", m.Name)]
		if m.Kind == api.Permit {
			count[fmt.Sprint("most", m.Name)] = max(most, m.N)
		}
	}
	for _, name := range names {
		of := func(kind int) int { return count[fmt.Sprint(kind, name)] }
		if of(api.Mutex) > 1 || of(api.Leader) > 1 || of(api.Writer) > 1 || of(api.Writer) > 0 && of(api.Reader) > 0 || of(api.Permit) > count["most"+name] {
			return false
		}
	}
	return true
}

// P4: things of a queue are taken once, in the order in which they were put; terms of those who lead rise.
func (r *run) order(was api.World) {
	now := mvcc.Now(r.w.Server.Store)
	before := mvcc.Now(was.Server.Store)
	for _, name := range names {
		if term, _, is := elect.Reign(now, name); is {
			r.count["terms"] += min(term-r.terms[name], 1)
			if term < r.terms[name] {
				r.fails("P4: a term", term, r.terms[name])
			}
			r.terms[name] = term
		}
		prefix, _ := key.Prefix(api.Enqueue, name)
		l := ticket.Order(hist.From(before, prefix))
		for i, x := range l {
			r.put[x.Create] = x
			if y, is := hist.Find(now, x.Key); is && y == x {
				continue
			}
			if i > 0 {
				r.fails("P4: taken ahead of others", x, l)
			}
			r.taken[name] = append(r.taken[name], x.Create)
		}
	}
	r.took(r.w.Marks[len(was.Marks):])
}

// took holds what clients took against what is gone.
func (r *run) took(marks []api.Mark) {
	for _, m := range marks {
		if m.Kind != api.Returned || m.Mach.Kind != api.Dequeue || m.Mach.Phase != api.Over {
			continue
		}
		r.count["taken"]++
		x := r.put[m.Mach.Token]
		if x.Key != m.Mach.Key || x.Value != m.Mach.Value || !slices.Contains(r.taken[m.Mach.Name], x.Create) {
			r.fails("P4: it took", m, x)
		}
		// It is nobody else's.
		r.put[m.Mach.Token] = api.KV{}
	}
}

// P1 to P4, and P23.6: of any moves.
func TestThePromisesOfTheWhole(t *testing.T) {
	count := map[string]int{}
	for seed := range 840 {
		r := newRun(t, seed, seed%2 == 0, count)
		for r.w.Time < 700 {
			for _, m := range r.next() {
				r.do(m)
			}
		}
		for name, l := range r.taken {
			if !slices.IsSorted(l) || len(slices.Compact(slices.Clone(l))) < len(l) {
				r.fails("P4", name, l)
			}
		}
	}
	// So much happened that it counts for something.
	for what, least := range map[string]int{"stale": 20, "written": 200, "again": 1000, "old": 5, "two": 50, "terms": 100, "taken": 100, "holds 1": 500, "holds 2": 500, "holds 3": 500, "holds 4": 500, "holds 5": 500, "holds 6": 500} {
		if count[what] < least {
			t.Errorf("of %q there were %d", what, count[what])
		}
	}
}

// P3, P23.6: who is told too late that it comes first holds nothing, for by then another one holds.
func TestWhoIsToldTooLate(t *testing.T) {
	for _, kind := range []int{api.Mutex, api.Writer, api.Leader, api.Permit} {
		start := api.Machine{Kind: kind, Name: "a", N: 1}
		deliver := func(i int) api.Move { return api.Move{Kind: api.Deliver, N: i} }
		step := func(n int) api.Move { return api.Move{Kind: api.Step, N: n} }
		l := []api.Move{{Kind: api.Start, Mach: start}, step(0), deliver(0), deliver(0), step(0), deliver(0), deliver(0), step(0), deliver(0)}
		for range 14 {
			l = append(l, api.Move{Kind: api.Tick})
		}
		l = append(l, api.Move{Kind: api.Start, N: 1, Mach: start})
		for range 3 {
			l = append(l, step(1), deliver(1), deliver(1))
		}
		w, _ := world.New(2, true)
		if at, e := Watched(w, append(l, deliver(0))); at != len(l)+1 || e != api.OK {
			t.Errorf("of kind %d it is %d, %d", kind, at, e)
		}
		w, errs := world.Play(w, append(l, deliver(0)))
		if slices.Max(errs) != api.OK || !slices.Equal(world.Holders(w), []int{1}) || w.Nodes[0].Mach.Err != api.ErrLost || w.Nodes[0].Mach.Phase != api.Failed {
			t.Errorf("of kind %d it is %v, %v", kind, errs, w.Nodes)
		}
	}
}

// fair is a world whose clients all go on, and are told at last, and what each of them still wants.
type fair struct {
	t      *testing.T
	seed   int
	random *rand.Rand
	w      api.World
	wants  [][]api.Machine
	lossy  bool
}

// do plays a move, which may fail.
func (f *fair) do(m api.Move) api.Errno {
	w, e := world.Do(f.w, m)
	f.w = w
	return e
}

// round lets each client go on, brings what is on its way, and lets the time go on.
func (f *fair) round() {
	for n := range f.w.Nodes {
		f.turn(n)
	}
	for len(f.w.Bag) > 0 {
		i := f.random.Intn(len(f.w.Bag))
		switch at := f.random.Intn(16); {
		case at == 0 && f.lossy:
			f.do(api.Move{Kind: api.Drop, N: i})
			continue
		case at == 1:
			f.do(api.Move{Kind: api.Copy, N: i})
		}
		f.do(api.Move{Kind: api.Deliver, N: i})
	}
	if s := f.w.Server.Store; len(s.Log) > 40 {
		f.do(api.Move{Kind: api.Shrink, N: s.Rev})
	}
	var by []int
	for range 1 + len(f.w.Nodes) {
		by = append(by, 15+f.random.Intn(3))
	}
	f.do(api.Move{Kind: api.Tick, By: by})
}

// turn lets a client begin what it wants next, let go what it has, and go on.
func (f *fair) turn(n int) {
	m := f.w.Nodes[n].Mach
	if m.Phase == api.Failed && !f.lossy {
		f.t.Fatalf("P5: of seed %d it failed: %v", f.seed, m)
	}
	if m.Phase == api.Over && len(f.wants[n]) > 0 {
		f.wants[n] = f.wants[n][1:]
	}
	if m.Phase == api.Idle || m.Phase == api.Over || m.Phase == api.Failed {
		if len(f.wants[n]) == 0 {
			return
		}
		if e := f.do(api.Move{Kind: api.Start, N: n, Mach: f.wants[n][0]}); e != api.OK {
			f.t.Fatalf("P5: of seed %d it can't start: %d", f.seed, e)
		}
	}
	if m.Phase == api.Held && f.random.Intn(3) == 0 {
		f.do(api.Move{Kind: api.Release, N: n})
	}
	f.do(api.Move{Kind: api.Step, N: n})
}

// P5: clients that go on, and are told, all come to have what they want; also where much is lost on the way.
func TestAllComeToHaveWhatTheyWant(t *testing.T) {
	for seed := range 200 {
		nodes := 1 + seed/2%4
		w, _ := world.New(nodes, true)
		f := &fair{t: t, seed: seed, random: rand.New(rand.NewSource(int64(seed))), w: w, lossy: seed%2 == 1}
		for n := range nodes {
			// Each puts as much as it takes, and all come to the party.
			l := []int{api.Enqueue, api.Mutex, api.Dequeue, api.Reader, api.Writer, api.Permit, api.Leader, api.Party}
			f.random.Shuffle(len(l)-1, func(i, j int) { l[i+1], l[j+1] = l[j+1], l[i+1] })
			f.wants = append(f.wants, nil)
			for _, kind := range l {
				f.wants[n] = append(f.wants[n], api.Machine{Kind: kind, Name: "x", N: nodes, Value: "v"})
			}
		}
		for slices.ContainsFunc(f.wants, func(l []api.Machine) bool { return len(l) > 0 }) {
			f.round()
			if e := Good(f.w); e != api.OK || f.w.Time > 30000 {
				t.Fatalf("P5: of seed %d it is %d, %v", seed, e, f.w.Nodes)
			}
		}
	}
}
