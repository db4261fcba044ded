package watch

import (
	"fmt"
	"math"
	"math/rand"
	"reflect"
	"slices"
	"strings"
	"testing"

	"baton/api"
	"baton/mvcc"
)

// store is what comes of lists, none of which may fail: of each, keys that are laid, or, with a - ahead, gone.
func store(t *testing.T, lists ...string) api.Store {
	t.Helper()
	s := mvcc.New()
	for _, l := range lists {
		var muts []api.Mut
		for _, k := range strings.Fields(l) {
			k, gone := strings.CutPrefix(k, "-")
			muts = append(muts, api.Mut{Gone: gone, Key: k})
		}
		next, _, e := mvcc.Apply(s, muts)
		if e != api.OK {
			t.Fatalf("Apply of %q is %d", l, e)
		}
		s = next
	}
	return s
}

// shrunk is s, cut to rev, which may not fail.
func shrunk(t *testing.T, s api.Store, rev int) api.Store {
	t.Helper()
	s, e := mvcc.Shrink(s, rev)
	if e != api.OK {
		t.Fatalf("Shrink to %d is %d", rev, e)
	}
	return s
}

// tell writes events as revisions and keys, with a - ahead of those that are gone.
func tell(l []api.Event) string {
	var s []string
	for _, e := range l {
		gone := ""
		if e.Gone {
			gone = "-"
		}
		s = append(s, fmt.Sprintf("%d%s%s", e.Rev, gone, e.KV.Key))
	}
	return strings.Join(s, " ")
}

// copied is s in memory of its own.
func copied(s api.Store) api.Store {
	s.Base, s.Log = slices.Clone(s.Base), slices.Clone(s.Log)
	return s
}

// P7.1
func TestSince(t *testing.T) {
	s := store(t, "a b", "a -b", "ab c x", "b", "d")
	for _, c := range []struct {
		prefix    string
		rev, most int
		want      string
		next      int
	}{
		{"", 1, 30, "1a 1b 2a 2-b 3ab 3c 3x 4b 5d", 6},
		{"", 1, 9, "1a 1b 2a 2-b 3ab 3c 3x 4b 5d", 6},
		// One too many: the last revision is left out, whole ones ahead of it are told.
		{"", 1, 8, "1a 1b 2a 2-b 3ab 3c 3x 4b", 5},
		{"", 1, 7, "1a 1b 2a 2-b 3ab 3c 3x", 4},
		{"", 1, 6, "1a 1b 2a 2-b", 3},
		{"", 1, 5, "1a 1b 2a 2-b", 3},
		{"", 1, 4, "1a 1b 2a 2-b", 3},
		{"", 1, 3, "1a 1b", 2},
		{"", 1, 2, "1a 1b", 2},
		{"", 2, 3, "2a 2-b", 3},
		// A revision that has room behind one that has none is left out, too.
		{"", 2, 4, "2a 2-b", 3},
		{"", 3, 3, "3ab 3c 3x", 4},
		{"", 3, 4, "3ab 3c 3x 4b", 5},
		{"", 4, 1, "4b", 5},
		{"", 5, 1, "5d", 6},
		{"", 6, 1, "", 6},
		{"", 6, 30, "", 6},
		// Events of other prefixes do not count, and where to go on is a revision that has some.
		{"a", 1, 30, "1a 2a 3ab", 6},
		{"a", 1, 2, "1a 2a", 3},
		{"a", 1, 1, "1a", 2},
		{"a", 3, 1, "3ab", 6},
		{"a", 4, 1, "", 6},
		{"b", 1, 2, "1b 2-b", 4},
		{"b", 2, 1, "2-b", 4},
		{"b", 3, 1, "4b", 6},
		{"ab", 1, 1, "3ab", 6},
		{"abc", 1, 1, "", 6},
		{"B", 1, 1, "", 6},
		{strings.Repeat("a", 99), 1, 1, "", 6},
	} {
		l, next, e := Since(s, c.prefix, c.rev, c.most)
		if tell(l) != c.want || next != c.next || e != api.OK {
			t.Errorf("Since of %q, %d, %d is %q, %d, %d", c.prefix, c.rev, c.most, tell(l), next, e)
		}
	}
}

// P7.1: what is told are the events of the log, whole.
func TestSinceTellsEventsAsTheyAre(t *testing.T) {
	s, _, _ := mvcc.Apply(mvcc.New(), []api.Mut{{Key: "p/a", Value: "v", Lease: 3}, {Key: "q"}})
	s, _, _ = mvcc.Apply(s, []api.Mut{{Key: "p/a", Value: "w"}})
	s, _, _ = mvcc.Apply(s, []api.Mut{{Gone: true, Key: "p/a"}})
	want := []api.Event{
		{Rev: 1, KV: api.KV{Key: "p/a", Value: "v", Create: 1, Mod: 1, Version: 1, Lease: 3}},
		{Rev: 2, KV: api.KV{Key: "p/a", Value: "w", Create: 1, Mod: 2, Version: 2}},
		{Rev: 3, Gone: true, KV: api.KV{Key: "p/a", Value: "w", Create: 1, Mod: 2, Version: 2}},
	}
	if l, next, e := Since(s, "p/", 1, 30); !slices.Equal(l, want) || next != 4 || e != api.OK {
		t.Errorf("it is %v, %d, %d", l, next, e)
	}
}

// P7.1: of several errors the first one is told, and nothing beside it.
func TestSinceOfWrongArguments(t *testing.T) {
	s := shrunk(t, store(t, "a b", "c", "a b c", "d"), 2)
	for _, c := range []struct {
		rev, most int
		e         api.Errno
	}{
		{3, 0, api.ErrArg}, {3, -1, api.ErrArg}, {3, 31, api.ErrArg}, {3, math.MinInt, api.ErrArg}, {3, math.MaxInt, api.ErrArg},
		{0, 0, api.ErrArg}, {9, 31, api.ErrArg}, {1, 0, api.ErrArg},
		{0, 1, api.ErrRev}, {-1, 1, api.ErrRev}, {6, 1, api.ErrRev}, {math.MinInt, 30, api.ErrRev}, {math.MaxInt, 30, api.ErrRev},
		{1, 1, api.ErrCompact}, {2, 1, api.ErrCompact}, {2, 30, api.ErrCompact},
		{3, 1, api.ErrFull}, {3, 2, api.ErrFull},
		{3, 3, api.OK}, {4, 1, api.OK}, {5, 1, api.OK}, {3, 30, api.OK},
	} {
		l, next, e := Since(s, "", c.rev, c.most)
		if e != c.e || e != api.OK && (len(l) != 0 || next != 0) {
			t.Errorf("Since of %d, %d is %q, %d, %d", c.rev, c.most, tell(l), next, e)
		}
		all, ae := All(s, "", c.rev, c.most)
		if ae != c.e || ae != api.OK && len(all) != 0 {
			t.Errorf("All of %d, %d is %q, %d", c.rev, c.most, tell(all), ae)
		}
	}
	// At most 30, and a revision of 30 has room among these.
	many := make([]string, 30)
	for i := range many {
		many[i] = fmt.Sprint("k", i)
	}
	s = store(t, strings.Join(many, " "), "k1")
	if l, next, e := Since(s, "", 1, 30); len(l) != 30 || next != 2 || e != api.OK {
		t.Errorf("of 30 it is %d events, %d, %d", len(l), next, e)
	}
	if _, _, e := Since(s, "", 1, 29); e != api.ErrFull {
		t.Errorf("of 29 it is %d", e)
	}
}

// P7.1: a store whose history was cut whole tells nothing, but from where to go on.
func TestSinceBehindTheLast(t *testing.T) {
	for _, s := range []api.Store{mvcc.New(), shrunk(t, store(t, "a", "b", "c"), 3), {Rev: api.MaxRev, Low: api.MaxRev}} {
		if l, next, e := Since(s, "", s.Rev+1, 1); len(l) != 0 || next != s.Rev+1 || e != api.OK {
			t.Errorf("at %d it is %v, %d, %d", s.Rev, l, next, e)
		}
		if l, e := All(s, "", s.Rev+1, 1); len(l) != 0 || e != api.OK {
			t.Errorf("at %d it is %v, %d", s.Rev, l, e)
		}
		if _, _, e := Since(s, "", s.Rev+2, 1); e != api.ErrRev {
			t.Errorf("at %d it is %d", s.Rev, e)
		}
		if s.Rev > 0 {
			if _, _, e := Since(s, "", s.Rev, 1); e != api.ErrCompact {
				t.Errorf("at %d it is %d", s.Rev, e)
			}
		}
	}
}

// P7.1: the chapter's example.
func TestThreeRevisionsOfTwo(t *testing.T) {
	s := store(t, "a b", "c d", "e f")
	if l, next, e := Since(s, "", 1, 5); tell(l) != "1a 1b 2c 2d" || next != 3 || e != api.OK {
		t.Errorf("it is %q, %d, %d", tell(l), next, e)
	}
}

// P7.2
func TestAll(t *testing.T) {
	s := store(t, "a b", "a -b", "ab c x", "b", "d")
	for _, c := range []struct {
		prefix    string
		rev, most int
		want      string
		e         api.Errno
	}{
		{"", 1, 30, "1a 1b 2a 2-b 3ab 3c 3x 4b 5d", api.OK},
		{"", 1, 3, "1a 1b 2a 2-b 3ab 3c 3x 4b 5d", api.OK},
		{"", 2, 3, "2a 2-b 3ab 3c 3x 4b 5d", api.OK},
		{"", 4, 1, "4b 5d", api.OK},
		{"", 6, 1, "", api.OK},
		{"a", 1, 1, "1a 2a 3ab", api.OK},
		{"b", 1, 1, "1b 2-b 4b", api.OK},
		{"zz", 1, 1, "", api.OK},
		// What was told ahead of an error is not told beside it.
		{"", 1, 2, "", api.ErrFull},
		{"", 2, 2, "", api.ErrFull},
		{"", 3, 2, "", api.ErrFull},
		{"", 1, 1, "", api.ErrFull},
	} {
		l, e := All(s, c.prefix, c.rev, c.most)
		if tell(l) != c.want || e != c.e {
			t.Errorf("All of %q, %d, %d is %q, %d", c.prefix, c.rev, c.most, tell(l), e)
		}
	}
}

// P7.3
func TestView(t *testing.T) {
	a, b, c := api.KV{Key: "a", Create: 1}, api.KV{Key: "b", Create: 2}, api.KV{Key: "c", Create: 3}
	other := api.KV{Key: "b", Value: "w", Create: 9}
	lay := func(rev int, x api.KV) api.Event { return api.Event{Rev: rev, KV: x} }
	gone := func(rev int, k string) api.Event { return api.Event{Rev: rev, Gone: true, KV: api.KV{Key: k}} }
	for i, x := range []struct {
		l      []api.KV
		events []api.Event
		want   []api.KV
	}{
		{nil, nil, nil},
		{[]api.KV{a, c}, nil, []api.KV{a, c}},
		{[]api.KV{a, c}, []api.Event{lay(4, b)}, []api.KV{a, b, c}},
		{[]api.KV{a, b, c}, []api.Event{lay(4, other)}, []api.KV{a, other, c}},
		{[]api.KV{a, b, c}, []api.Event{gone(4, "b")}, []api.KV{a, c}},
		{[]api.KV{a, c}, []api.Event{gone(4, "b")}, []api.KV{a, c}},
		{[]api.KV{a}, []api.Event{gone(4, "a"), lay(5, b), lay(6, other), gone(6, "x")}, []api.KV{other}},
		// Revisions are nothing to it: they may fall, and be any.
		{nil, []api.Event{lay(9, a), lay(3, b), gone(1, "a")}, []api.KV{b}},
		{nil, []api.Event{lay(math.MaxInt, a), lay(math.MinInt, b), lay(0, c), gone(math.MaxInt, "c")}, []api.KV{a, b}},
	} {
		if got := View(x.l, x.events); !slices.Equal(got, x.want) {
			t.Errorf("case %d: %v", i, got)
		}
	}
}

// randomStore is a store that may be, of few keys, whose history was cut now and then.
func randomStore(random *rand.Rand) api.Store {
	s := mvcc.New()
	for range random.Intn(30) {
		var l []api.Mut
		for _, i := range random.Perm(8)[:random.Intn(6)] {
			l = append(l, api.Mut{Gone: random.Intn(3) == 0, Key: string("ab"[i%2]) + fmt.Sprint(i)})
		}
		s, _, _ = mvcc.Apply(s, l)
		if random.Intn(12) == 0 {
			s, _ = mvcc.Shrink(s, s.Low+random.Intn(s.Rev-s.Low+1))
		}
	}
	return s
}

// since is Since by its words, for arguments that may be: of all places to go on from, the last one that has room.
func since(s api.Store, prefix string, rev int, most int) ([]api.Event, int, api.Errno) {
	var events []api.Event
	for _, e := range s.Log {
		if strings.HasPrefix(e.KV.Key, prefix) && e.Rev >= rev {
			events = append(events, e)
		}
	}
	if len(events) <= most {
		return events, s.Rev + 1, api.OK
	}
	var told []api.Event
	next := 0
	for _, x := range events {
		var ahead []api.Event
		for _, e := range events {
			if e.Rev < x.Rev {
				ahead = append(ahead, e)
			}
		}
		if len(ahead) <= most && x.Rev > next {
			told, next = ahead, x.Rev
		}
	}
	if len(told) == 0 {
		return nil, 0, api.ErrFull
	}
	return told, next, api.OK
}

// P7.1, P7.4
func TestWhoGoesOnSeesEachEventOnce(t *testing.T) {
	random := rand.New(rand.NewSource(7))
	for range 300 {
		s := randomStore(random)
		for range 20 {
			prefix := []string{"", "a", "b", "a0", "c"}[random.Intn(5)]
			rev, most := s.Low+1+random.Intn(s.Rev-s.Low+1), 1+random.Intn(10)
			want, wantNext, wantE := since(s, prefix, rev, most)
			l, next, e := Since(s, prefix, rev, most)
			if !slices.Equal(l, want) || next != wantNext || e != wantE {
				t.Fatalf("Since of %q, %q, %d, %d is %q, %d, %d; not %q, %d, %d", tell(s.Log), prefix, rev, most, tell(l), next, e, tell(want), wantNext, wantE)
			}
			goesOn(t, s, prefix, rev, most)
		}
	}
}

// goesOn asks from where it was told to, and holds what it saw, and All, against the log.
func goesOn(t *testing.T, s api.Store, prefix string, rev int, most int) {
	t.Helper()
	var seen []api.Event
	end := api.OK
	for at := rev; at != s.Rev+1 && end == api.OK; {
		l, next, e := Since(s, prefix, at, most)
		if e == api.OK && (next <= at || len(l) > most) {
			t.Fatalf("from %d it goes on from %d, with %d events", at, next, len(l))
		}
		seen, at, end = append(seen, l...), next, e
	}
	var want []api.Event
	for _, e := range s.Log {
		if e.Rev >= rev && strings.HasPrefix(e.KV.Key, prefix) {
			want = append(want, e)
		}
	}
	if end != api.OK {
		want, seen = nil, nil
	}
	all, e := All(s, prefix, rev, most)
	if !slices.Equal(seen, want) || !slices.Equal(all, want) || e != end {
		t.Fatalf("of %q from %d, at most %d: saw %q; All is %q, %d, not %q", tell(s.Log), rev, most, tell(seen), tell(all), e, tell(want))
	}
}

// P7.4
func TestEventsComeToWhatThereIs(t *testing.T) {
	random := rand.New(rand.NewSource(74))
	for range 300 {
		s := randomStore(random)
		for rev := max(s.Low, 1); rev <= s.Rev; rev++ {
			there, e := mvcc.At(s, rev)
			if e != api.OK {
				t.Fatalf("At %d is %d", rev, e)
			}
			events, e := All(s, "", rev+1, 6)
			if got := View(there, events); e != api.OK || !slices.Equal(got, mvcc.Now(s)) {
				t.Fatalf("from %d on %q come to %v, %d", rev, tell(events), got, e)
			}
		}
	}
}

// P7.1, P7.2 of stores that may not be: a revision's events are together wherever they stand, and it ends.
func TestLogsInNoOrder(t *testing.T) {
	log := func(revs ...int) []api.Event {
		var l []api.Event
		for i, rev := range revs {
			l = append(l, api.Event{Rev: rev, KV: api.KV{Key: fmt.Sprint("k", i)}})
		}
		return l
	}
	for _, c := range []struct {
		log       []api.Event
		rev, most int
		want      string
		next      int
		e         api.Errno
		all       string
		allE      api.Errno
	}{
		{log(3, 3, 1), 1, 2, "1k2", 3, api.OK, "1k2 3k0 3k1", api.OK},
		{log(3, 1, 3), 1, 1, "1k1", 3, api.OK, "", api.ErrFull},
		{log(2, 1, 2, 1), 1, 3, "1k1 1k3", 2, api.OK, "1k1 1k3 2k0 2k2", api.OK},
		{log(2, 1, 2, 1), 1, 4, "2k0 1k1 2k2 1k3", 6, api.OK, "2k0 1k1 2k2 1k3", api.OK},
		{log(2, 1, 1, 1), 1, 2, "", 0, api.ErrFull, "", api.ErrFull},
		// Revisions above Rev.
		{log(1, 9), 1, 2, "1k0 9k1", 6, api.OK, "1k0 9k1", api.OK},
		{log(1, 9), 1, 1, "1k0", 9, api.OK, "", api.ErrRev},
		{log(1, 6), 1, 1, "1k0", 6, api.OK, "1k0", api.OK},
		{log(math.MinInt, -1, 0), 1, 1, "", 6, api.OK, "", api.OK},
	} {
		s := api.Store{Rev: 5, Log: c.log}
		if l, next, e := Since(s, "", c.rev, c.most); tell(l) != c.want || next != c.next || e != c.e {
			t.Errorf("Since of %q, %d, %d is %q, %d, %d", tell(c.log), c.rev, c.most, tell(l), next, e)
		}
		if l, e := All(s, "", c.rev, c.most); tell(l) != c.all || e != c.allE {
			t.Errorf("All of %q, %d, %d is %q, %d", tell(c.log), c.rev, c.most, tell(l), e)
		}
	}
}

// R1
func TestNothingPanics(t *testing.T) {
	numbers := []int{math.MinInt, math.MinInt + 1, -1, 0, 1, 2, 30, 31, math.MaxInt - 1, math.MaxInt}
	var log []api.Event
	for _, n := range numbers {
		log = append(log, api.Event{Rev: n}, api.Event{Rev: n, Gone: true})
	}
	for _, rev := range numbers {
		for _, low := range numbers {
			s := api.Store{Rev: rev, Low: low, Base: make([]api.KV, 50), Log: log}
			for _, at := range numbers {
				for _, most := range numbers {
					Since(s, "", at, most)
					All(s, "", at, most)
				}
			}
		}
	}
	View(make([]api.KV, 50), log)
}

// R5: what is handed in is not changed, also where its lists have room behind them; what is answered shares none.
func TestNothingIsShared(t *testing.T) {
	s := store(t, "a b", "a -b", "c")
	before := copied(s)
	part := s
	part.Rev, part.Log = 2, s.Log[:4]
	first, _, _ := Since(part, "", 1, 2)
	whole, _, _ := Since(part, "", 1, 30)
	all, _ := All(part, "", 1, 2)
	for _, l := range [][]api.Event{first, whole, all} {
		if len(l) < 2 {
			t.Errorf("it is %q", tell(l))
		}
		clear(l)
	}
	l := mvcc.Now(s)
	kept, room := slices.Clone(l), l[:1]
	for _, events := range [][]api.Event{nil, s.Log, {{Gone: true, KV: l[0]}}, {{KV: api.KV{Key: "0"}}}, {{KV: api.KV{Key: "z"}}}} {
		clear(View(l, events))
		clear(View(room, events))
	}
	if !reflect.DeepEqual(s, before) || !slices.Equal(l, kept) {
		t.Errorf("what was handed in is now %v, %v", s, l)
	}
}
