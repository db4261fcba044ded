package mvcc

import (
	"fmt"
	"maps"
	"math"
	"math/rand"
	"reflect"
	"slices"
	"strings"
	"testing"

	"baton/api"
)

const (
	maxRev    = 1<<40 - 2
	maxNumber = 1<<40 - 1
)

// muts reads a list: a key is laid, with what stands behind a = as its value; or, with a - ahead of it, gone.
func muts(s string) []api.Mut {
	var l []api.Mut
	for _, k := range strings.Fields(s) {
		k, gone := strings.CutPrefix(k, "-")
		k, value, _ := strings.Cut(k, "=")
		l = append(l, api.Mut{Gone: gone, Key: k, Value: value})
	}
	return l
}

// store is what comes of lists, none of which may fail.
func store(t *testing.T, lists ...string) api.Store {
	t.Helper()
	s := New()
	for _, l := range lists {
		next, _, e := Apply(s, muts(l))
		if e != api.OK {
			t.Fatalf("Apply of %q is %d", l, e)
		}
		s = next
	}
	return s
}

// some is so many things to lay.
func some(prefix string, n int) []api.Mut {
	var l []api.Mut
	for i := range n {
		l = append(l, api.Mut{Key: fmt.Sprintf("%s%02d", prefix, i)})
	}
	return l
}

// tell writes things as key, value, Create, Mod, Version, Lease.
func tell(l []api.KV) string {
	var s []string
	for _, x := range l {
		s = append(s, fmt.Sprintf("%s=%s/%d/%d/%d/%d", x.Key, x.Value, x.Create, x.Mod, x.Version, x.Lease))
	}
	return strings.Join(s, " ")
}

// tellEvents writes events as their things, with the revision and, if they are gone, a - ahead.
func tellEvents(l []api.Event) string {
	var s []string
	for _, e := range l {
		gone := ""
		if e.Gone {
			gone = "-"
		}
		s = append(s, fmt.Sprintf("%d:%s%s", e.Rev, gone, tell([]api.KV{e.KV})))
	}
	return strings.Join(s, " ")
}

// copied is s in memory of its own.
func copied(s api.Store) api.Store {
	s.Base, s.Log = slices.Clone(s.Base), slices.Clone(s.Log)
	return s
}

// P5.1
func TestNew(t *testing.T) {
	s := New()
	if s.Rev != 0 || s.Low != 0 || len(s.Base) != 0 || len(s.Log) != 0 {
		t.Errorf("New is %v", s)
	}
	if !May(s) || len(Now(s)) != 0 {
		t.Errorf("New may be: %v; it has %v", May(s), Now(s))
	}
}

// P5.1
func TestMayOfRevisions(t *testing.T) {
	for _, c := range []struct {
		rev, low int
		want     bool
	}{
		{0, 0, true}, {5, 0, true}, {5, 5, true}, {5, 6, false}, {5, -1, false}, {-1, -1, false}, {-1, 0, false},
		{maxRev, 0, true}, {maxRev, maxRev, true}, {maxRev + 1, 0, false}, {maxRev + 1, maxRev + 1, false},
		{math.MaxInt, 0, false}, {math.MaxInt, math.MaxInt, false}, {math.MinInt, math.MinInt, false},
		{0, math.MinInt, false}, {0, math.MaxInt, false},
	} {
		if got := May(api.Store{Rev: c.rev, Low: c.low}); got != c.want {
			t.Errorf("Rev %d, Low %d: %v", c.rev, c.low, got)
		}
	}
}

// P5.1
func TestMayOfBase(t *testing.T) {
	full := func(n int) []api.KV {
		var l []api.KV
		for _, m := range some("k", n) {
			l = append(l, api.KV{Key: m.Key, Create: 1, Mod: 1, Version: 1})
		}
		return l
	}
	for i, c := range []struct {
		low  int
		base []api.KV
		want bool
	}{
		{3, nil, true},
		{3, []api.KV{{Key: "a", Create: 1, Mod: 3, Version: 2, Lease: 4}}, true},
		{3, []api.KV{{Key: "a", Create: 1, Mod: 4, Version: 2}}, false},
		{3, []api.KV{{Key: "a", Create: 4, Mod: 4, Version: 1}}, false},
		{0, []api.KV{{Key: "a", Create: 1, Mod: 1, Version: 1}}, false},
		{1, []api.KV{{Key: "a", Create: 1, Mod: 1, Version: 1}}, true},
		{3, []api.KV{{Key: "a", Create: 1, Mod: 1, Version: 1}, {Key: "b", Create: 3, Mod: 4, Version: 1}}, false},
		{3, []api.KV{{Key: "a", Create: 1, Mod: 1, Version: 2}}, false},
		{3, []api.KV{{}}, false},
		{3, []api.KV{{Key: "a b", Create: 1, Mod: 1, Version: 1}}, false},
		{3, []api.KV{{Key: "a", Create: 1, Mod: 1, Version: 1}, {Key: "a", Create: 1, Mod: 1, Version: 1}}, false},
		{3, []api.KV{{Key: "b", Create: 1, Mod: 1, Version: 1}, {Key: "a", Create: 1, Mod: 1, Version: 1}}, false},
		{3, full(30), true},
		{3, full(31), false},
	} {
		if got := May(api.Store{Rev: 9, Low: c.low, Base: c.base}); got != c.want {
			t.Errorf("case %d: %v", i, got)
		}
	}
}

// P5.1
func TestMayOfEvents(t *testing.T) {
	// Ahead of each event there is "a", of Create 2, Mod 4, Version 2, and Low 5; Rev is 9.
	a := api.KV{Key: "a", Value: "v", Create: 2, Mod: 4, Version: 2, Lease: 3}
	gone := func(rev int, x api.KV) api.Event { return api.Event{Rev: rev, Gone: true, KV: x} }
	lay := func(rev int, x api.KV) api.Event { return api.Event{Rev: rev, KV: x} }
	next := api.KV{Key: "a", Value: "w", Create: 2, Mod: 6, Version: 3, Lease: 8}
	b := api.KV{Key: "b", Create: 6, Mod: 6, Version: 1}
	with := func(x api.KV, change func(*api.KV)) api.KV {
		change(&x)
		return x
	}
	for i, c := range []struct {
		log  []api.Event
		want bool
	}{
		{nil, true},
		{[]api.Event{gone(6, a)}, true},
		{[]api.Event{lay(6, next)}, true},
		{[]api.Event{lay(6, b)}, true},
		{[]api.Event{{}}, false},

		// Revisions.
		{[]api.Event{gone(9, a)}, true},
		{[]api.Event{gone(10, a)}, false},
		{[]api.Event{gone(5, a)}, false},
		{[]api.Event{gone(0, a)}, false},
		{[]api.Event{gone(math.MinInt, a)}, false},
		{[]api.Event{gone(math.MaxInt, a)}, false},
		{[]api.Event{lay(6, b), gone(6, a)}, true},
		{[]api.Event{lay(6, b), gone(8, a)}, true},
		{[]api.Event{gone(7, a), lay(6, b)}, false},

		// Of one that is gone KV is what is there, in all of its fields.
		{[]api.Event{gone(6, b)}, false},
		{[]api.Event{gone(6, api.KV{Key: "a"})}, false},
		{[]api.Event{gone(6, with(a, func(x *api.KV) { x.Value = "w" }))}, false},
		{[]api.Event{gone(6, with(a, func(x *api.KV) { x.Create = 1 }))}, false},
		{[]api.Event{gone(6, with(a, func(x *api.KV) { x.Mod = 5 }))}, false},
		{[]api.Event{gone(6, with(a, func(x *api.KV) { x.Mod = 6 }))}, false},
		{[]api.Event{gone(6, with(a, func(x *api.KV) { x.Version = 1 }))}, false},
		{[]api.Event{gone(6, with(a, func(x *api.KV) { x.Lease = 0 }))}, false},
		{[]api.Event{gone(6, a), gone(7, a)}, false},
		{[]api.Event{lay(6, next), gone(7, next)}, true},
		{[]api.Event{lay(6, next), gone(7, a)}, false},
		{[]api.Event{gone(6, api.KV{})}, false},

		// Of one that is there Create is as it was, Version one more.
		{[]api.Event{lay(6, with(next, func(x *api.KV) { x.Create = 6 }))}, false},
		{[]api.Event{lay(6, with(next, func(x *api.KV) { x.Create = 3 }))}, false},
		{[]api.Event{lay(6, with(next, func(x *api.KV) { x.Create, x.Version = 6, 1 }))}, false},
		{[]api.Event{lay(6, with(next, func(x *api.KV) { x.Version = 2 }))}, false},
		{[]api.Event{lay(6, with(next, func(x *api.KV) { x.Version = 4 }))}, false},
		{[]api.Event{lay(6, with(next, func(x *api.KV) { x.Version = 1 }))}, false},
		{[]api.Event{lay(6, with(next, func(x *api.KV) { x.Mod = 5 }))}, false},
		{[]api.Event{lay(6, with(next, func(x *api.KV) { x.Mod = 7 }))}, false},
		{[]api.Event{lay(7, next)}, false},
		{[]api.Event{lay(6, a)}, false},

		// Of one that is not there Create is the revision, Version 1.
		{[]api.Event{lay(6, with(b, func(x *api.KV) { x.Create = 5 }))}, false},
		{[]api.Event{lay(6, with(b, func(x *api.KV) { x.Create, x.Version = 5, 2 }))}, false},
		{[]api.Event{lay(6, with(b, func(x *api.KV) { x.Version = 2 }))}, false},
		{[]api.Event{lay(6, with(b, func(x *api.KV) { x.Version = 0 }))}, false},
		{[]api.Event{lay(7, b)}, false},
		{[]api.Event{gone(6, a), lay(6, with(next, func(x *api.KV) { x.Create, x.Version = 6, 1 }))}, true},
		{[]api.Event{gone(6, a), lay(6, next)}, false},
		{[]api.Event{lay(6, b), lay(7, with(b, func(x *api.KV) { x.Mod, x.Version = 7, 2 }))}, true},
		{[]api.Event{lay(6, b), lay(7, with(b, func(x *api.KV) { x.Create, x.Mod = 7, 7 }))}, false},

		// What is laid may be.
		{[]api.Event{lay(6, with(b, func(x *api.KV) { x.Key = "" }))}, false},
		{[]api.Event{lay(6, with(b, func(x *api.KV) { x.Key = strings.Repeat("b", 40) }))}, true},
		{[]api.Event{lay(6, with(b, func(x *api.KV) { x.Key = strings.Repeat("b", 41) }))}, false},
		{[]api.Event{lay(6, with(b, func(x *api.KV) { x.Value = strings.Repeat("b", 20) }))}, true},
		{[]api.Event{lay(6, with(b, func(x *api.KV) { x.Value = strings.Repeat("b", 21) }))}, false},
		{[]api.Event{lay(6, with(b, func(x *api.KV) { x.Lease = maxNumber }))}, true},
		{[]api.Event{lay(6, with(b, func(x *api.KV) { x.Lease = maxNumber + 1 }))}, false},
		{[]api.Event{lay(6, with(b, func(x *api.KV) { x.Lease = -1 }))}, false},
		// It can't have been laid oftener than revisions went by.
		{[]api.Event{lay(6, b), lay(6, with(b, func(x *api.KV) { x.Version = 2 }))}, false},
	} {
		if got := May(api.Store{Rev: 9, Low: 5, Base: []api.KV{a}, Log: c.log}); got != c.want {
			t.Errorf("case %d: %v", i, got)
		}
	}
}

// P5.1
func TestMayOfAFullLog(t *testing.T) {
	log := func(n int) []api.Event {
		var l []api.Event
		for i := range n {
			l = append(l, api.Event{Rev: i + 1, KV: api.KV{Key: "a", Create: 1, Mod: i + 1, Version: i + 1}})
		}
		return l
	}
	for n, want := range map[int]bool{59: true, 60: true, 61: false} {
		if got := May(api.Store{Rev: 100, Log: log(n)}); got != want {
			t.Errorf("%d events: %v", n, got)
		}
	}
}

// P5.1
func TestMayOfTooManyThingsAtAnEvent(t *testing.T) {
	log := func(l []api.Mut, back bool) []api.Event {
		var events []api.Event
		for _, m := range l {
			events = append(events, api.Event{Rev: 1, KV: api.KV{Key: m.Key, Create: 1, Mod: 1, Version: 1}})
		}
		if back {
			last := events[len(events)-1]
			last.Gone = true
			events = append(events, last)
		}
		return events
	}
	for i, c := range []struct {
		n    int
		back bool
		want bool
	}{
		{30, false, true}, {30, true, true}, {31, false, false},
		// At the end there are 30 again.
		{31, true, false},
	} {
		if got := May(api.Store{Rev: 1, Log: log(some("k", c.n), c.back)}); got != c.want {
			t.Errorf("case %d: %v", i, got)
		}
	}
	base := make([]api.KV, 30)
	for i, m := range some("k", 30) {
		base[i] = api.KV{Key: m.Key, Create: 1, Mod: 1, Version: 1}
	}
	again := api.Event{Rev: 2, KV: api.KV{Key: "k07", Create: 1, Mod: 2, Version: 2}}
	if !May(api.Store{Rev: 2, Low: 1, Base: base, Log: []api.Event{again}}) {
		t.Error("of 30 things none can be laid again")
	}
	other := api.Event{Rev: 2, KV: api.KV{Key: "x", Create: 2, Mod: 2, Version: 1}}
	if May(api.Store{Rev: 2, Low: 1, Base: base, Log: []api.Event{other}}) {
		t.Error("behind 30 things another one may come")
	}
}

// P5.1, P5.2
func TestNowAndAt(t *testing.T) {
	s := store(t, "b=1 a", "b=2", "-a c", "a=9")
	const last = "a=9/4/4/1/0 b=2/1/2/2/0 c=/3/3/1/0"
	if got := tell(Now(s)); got != last {
		t.Errorf("Now is %q", got)
	}
	for _, c := range []struct {
		rev  int
		want string
		e    api.Errno
	}{
		{0, last, api.OK},
		{1, "a=/1/1/1/0 b=1/1/1/1/0", api.OK},
		{2, "a=/1/1/1/0 b=2/1/2/2/0", api.OK},
		{3, "b=2/1/2/2/0 c=/3/3/1/0", api.OK},
		{4, last, api.OK},
		{5, "", api.ErrRev},
		{-1, "", api.ErrRev},
		{math.MinInt, "", api.ErrRev},
		{math.MaxInt, "", api.ErrRev},
	} {
		got, e := At(s, c.rev)
		if tell(got) != c.want || e != c.e {
			t.Errorf("At %d is %q, %d", c.rev, tell(got), e)
		}
		if e != api.OK && len(got) != 0 {
			t.Errorf("At %d tells %v beside %d", c.rev, got, e)
		}
	}
}

// P5.2
func TestAtOfWhatWasShrunk(t *testing.T) {
	s, e := Shrink(store(t, "a", "b", "c", "d"), 3)
	if e != api.OK {
		t.Fatal(e)
	}
	for _, c := range []struct {
		rev, n int
		e      api.Errno
	}{
		{-1, 0, api.ErrRev}, {0, 4, api.OK}, {1, 0, api.ErrCompact}, {2, 0, api.ErrCompact},
		{3, 3, api.OK}, {4, 4, api.OK}, {5, 0, api.ErrRev},
	} {
		if l, e := At(s, c.rev); len(l) != c.n || e != c.e {
			t.Errorf("At %d is %v, %d", c.rev, l, e)
		}
	}
}

// P5.2: what nobody ever laid is nothing, but it is no error.
func TestAtOfNothing(t *testing.T) {
	if l, e := At(New(), 0); len(l) != 0 || e != api.OK {
		t.Errorf("At 0 is %v, %d", l, e)
	}
	if l, e := At(New(), 1); len(l) != 0 || e != api.ErrRev {
		t.Errorf("At 1 is %v, %d", l, e)
	}
	if l, e := At(api.Store{Rev: 7, Low: 7}, 0); len(l) != 0 || e != api.OK {
		t.Errorf("At 0 below Low is %v, %d", l, e)
	}
}

// P5.3
func TestApply(t *testing.T) {
	s := store(t, "a=1", "b=2")
	l := []api.Mut{
		{Key: "c", Value: "3", Lease: 5},
		{Key: "a", Value: "4"},
		{Gone: true, Key: "b", Value: "not used", Lease: 9},
		{Gone: true, Key: "x"},
		{Key: "B", Lease: maxNumber},
	}
	u, events, e := Apply(s, l)
	if e != api.OK || u.Rev != 3 || u.Low != 0 || len(u.Base) != 0 {
		t.Errorf("it is %v, %d", u, e)
	}
	const want = "3:c=3/3/3/1/5 3:a=4/1/3/2/0 3:-b=2/2/2/1/0 3:B=/3/3/1/1099511627775"
	if got := tellEvents(events); got != want {
		t.Errorf("the events are %q", got)
	}
	if got := tellEvents(u.Log); got != "1:a=1/1/1/1/0 2:b=2/2/2/1/0 "+want {
		t.Errorf("the log is %q", got)
	}
	if got := tell(Now(u)); got != "B=/3/3/1/1099511627775 a=4/1/3/2/0 c=3/3/3/1/5" {
		t.Errorf("there is %q", got)
	}
	if !May(u) {
		t.Error("it may not be")
	}
}

// P5.3, and the chapter's example.
func TestApplyCountsVersions(t *testing.T) {
	s := store(t, "a", "a")
	if got := tell(Now(s)); got != "a=/1/2/2/0" {
		t.Errorf("laid twice it is %q", got)
	}
	s = store(t, "a=1", "x", "a=1", "-a", "a=1", "a=2")
	if got := tell(Now(s)); got != "a=2/5/6/2/0 x=/2/2/1/0" {
		t.Errorf("made again it is %q", got)
	}
	// The same laid again is a change, too; of its lease nothing stays.
	s, _, _ = Apply(New(), []api.Mut{{Key: "a", Value: "v", Lease: 7}})
	s, events, e := Apply(s, []api.Mut{{Key: "a", Value: "v", Lease: 7}})
	if got := tellEvents(events); got != "2:a=v/1/2/2/7" || e != api.OK {
		t.Errorf("the same again is %q, %d", got, e)
	}
	if s, _, _ = Apply(s, []api.Mut{{Key: "a"}}); tell(Now(s)) != "a=/1/3/3/0" {
		t.Errorf("without a lease it is %q", tell(Now(s)))
	}
}

// P5.3
func TestApplyWithoutEvents(t *testing.T) {
	full := api.Store{Rev: maxRev, Low: maxRev}
	long := store(t, strings.Fields(strings.Repeat("a ", 60))...)
	for i, s := range []api.Store{New(), store(t, "a", "b"), full, long} {
		for _, l := range []string{"", "-x", "-x -y -z"} {
			if u, events, e := Apply(s, muts(l)); !reflect.DeepEqual(u, s) || len(events) != 0 || e != api.OK {
				t.Errorf("case %d: Apply of %q is %v, %v, %d", i, l, u, events, e)
			}
		}
	}
}

// P5.3
func TestApplyOfWrongLists(t *testing.T) {
	s := store(t, "a", "b=2")
	full := api.Store{Rev: maxRev, Low: maxRev}
	wrong := []api.Mut{
		{},
		{Key: "a b"},
		{Key: "\x7f"},
		{Key: "\xc3\xa4"},
		{Key: strings.Repeat("k", 41)},
		{Key: "k", Value: strings.Repeat("v", 21)},
		{Key: "k", Lease: -1},
		{Key: "k", Lease: math.MinInt},
		{Key: "k", Lease: maxNumber + 1},
		{Key: "k", Lease: math.MaxInt},
	}
	var lists [][]api.Mut
	for _, m := range wrong {
		gone := m
		gone.Gone = true
		lists = append(lists, []api.Mut{m}, []api.Mut{gone}, []api.Mut{{Key: "q"}, m}, []api.Mut{m, {Key: "q"}}, []api.Mut{gone, {Key: "q"}})
	}
	lists = append(lists, muts("q q"), muts("q -q"), muts("-q q"), muts("-q -q"), muts("q r s q"), muts("a=1 a=2"), some("k", 31))
	for i, l := range lists {
		// A wrong list is told ahead of a store that is full.
		for _, s := range []api.Store{s, full} {
			if u, events, e := Apply(s, l); !reflect.DeepEqual(u, s) || len(events) != 0 || e != api.ErrArg {
				t.Errorf("case %d: %v, %v, %d", i, u, events, e)
			}
		}
	}
	// What is gone, or would be nothing, is told ahead, too.
	if _, _, e := Apply(s, append(some("k", 30), api.Mut{Gone: true, Key: "k"})); e != api.ErrArg {
		t.Errorf("of 31 of which one is nothing it is %d", e)
	}
}

// P5.3
func TestApplyAtTheEdges(t *testing.T) {
	for i, m := range []api.Mut{
		{Key: strings.Repeat("k", 40)},
		{Key: "!"},
		{Key: "~"},
		{Key: "k", Value: strings.Repeat("v", 20)},
		{Key: "k", Value: "\x00\xff \n"},
		{Key: "k", Lease: maxNumber},
	} {
		u, events, e := Apply(New(), []api.Mut{m})
		want := api.KV{Key: m.Key, Value: m.Value, Create: 1, Mod: 1, Version: 1, Lease: m.Lease}
		if e != api.OK || !slices.Equal(events, []api.Event{{Rev: 1, KV: want}}) || !slices.Equal(Now(u), []api.KV{want}) {
			t.Errorf("case %d: %v, %d", i, events, e)
		}
	}
	if u, events, e := Apply(New(), some("k", 30)); e != api.OK || len(events) != 30 || len(Now(u)) != 30 || u.Rev != 1 {
		t.Errorf("of 30 it is %d events, %d", len(events), e)
	}
}

// P5.3
func TestApplyAtTheLastRevision(t *testing.T) {
	a := api.KV{Key: "a", Create: 1, Mod: 1, Version: 1}
	s := api.Store{Rev: maxRev - 1, Low: 1, Base: []api.KV{a}}
	u, _, e := Apply(s, muts("a"))
	if e != api.OK || u.Rev != maxRev || !May(u) {
		t.Errorf("the last revision is %v, %d", u, e)
	}
	for _, l := range []string{"a", "b", "-a", "-x b"} {
		if v, events, e := Apply(u, muts(l)); !reflect.DeepEqual(v, u) || len(events) != 0 || e != api.ErrFull {
			t.Errorf("behind it %q is %v, %d", l, events, e)
		}
	}
	if v, _, e := Apply(u, muts("-x")); !reflect.DeepEqual(v, u) || e != api.OK {
		t.Errorf("behind it nothing is %d", e)
	}
}

// P5.3
func TestApplyToAFullLog(t *testing.T) {
	s := store(t, strings.Fields(strings.Repeat("a ", 58))...)
	for l, want := range map[string]api.Errno{
		"b": api.OK, "b c": api.OK, "b c -x": api.OK, "b c d": api.ErrFull, "-a b c": api.ErrFull, "-a b": api.OK,
	} {
		u, events, e := Apply(s, muts(l))
		if e != want {
			t.Errorf("%q is %d", l, e)
		}
		if e == api.OK && (u.Rev != 59 || len(u.Log) != 58+len(events)) || e != api.OK && (!reflect.DeepEqual(u, s) || len(events) != 0) {
			t.Errorf("%q is %v, %v", l, u, events)
		}
	}
	full := store(t, strings.Fields(strings.Repeat("a ", 60))...)
	if u, _, e := Apply(full, muts("-a")); !reflect.DeepEqual(u, full) || e != api.ErrFull {
		t.Errorf("behind 60 events one that is gone is %d", e)
	}
}

// P5.3
func TestApplyToAFullStore(t *testing.T) {
	s, _, e := Apply(New(), some("k", 29))
	if e != api.OK {
		t.Fatal(e)
	}
	for _, c := range []struct {
		l string
		n int
		e api.Errno
	}{
		{"x", 30, api.OK},
		{"k05 x", 30, api.OK},
		{"x y", 29, api.ErrFull},
		{"x -k05 y", 30, api.OK},
		{"-k05 x y", 30, api.OK},
		// Behind it there would be 30, but at its second event there would be 31.
		{"x y -k05", 29, api.ErrFull},
		{"x y -k05 -k06", 29, api.ErrFull},
		{"x -q y", 29, api.ErrFull},
	} {
		u, events, e := Apply(s, muts(c.l))
		if e != c.e || len(Now(u)) != c.n {
			t.Errorf("%q is %d things, %d", c.l, len(Now(u)), e)
		}
		if e != api.OK && (!reflect.DeepEqual(u, s) || len(events) != 0) {
			t.Errorf("%q is %v, %v", c.l, u, events)
		}
	}
}

// P5.4
func TestShrink(t *testing.T) {
	s := store(t, "a=1 b", "c -a", "b=2 d", "-c")
	for _, c := range []struct {
		rev       int
		base, log string
	}{
		{0, "", tellEvents(s.Log)},
		{1, "a=1/1/1/1/0 b=/1/1/1/0", tellEvents(s.Log[2:])},
		{2, "b=/1/1/1/0 c=/2/2/1/0", tellEvents(s.Log[4:])},
		{3, "b=2/1/3/2/0 c=/2/2/1/0 d=/3/3/1/0", tellEvents(s.Log[6:])},
		{4, "b=2/1/3/2/0 d=/3/3/1/0", ""},
	} {
		u, e := Shrink(s, c.rev)
		if e != api.OK || u.Rev != 4 || u.Low != c.rev || tell(u.Base) != c.base || tellEvents(u.Log) != c.log {
			t.Errorf("to %d it is %v, %d", c.rev, u, e)
		}
		if !May(u) || !slices.Equal(Now(u), Now(s)) {
			t.Errorf("to %d: it may be: %v; there is %v", c.rev, May(u), Now(u))
		}
	}
}

// P5.4
func TestShrinkToWrongRevisions(t *testing.T) {
	s, e := Shrink(store(t, "a", "b", "c", "d"), 2)
	if e != api.OK {
		t.Fatal(e)
	}
	for rev, want := range map[int]api.Errno{
		-1: api.ErrRev, math.MinInt: api.ErrRev, 5: api.ErrRev, math.MaxInt: api.ErrRev,
		0: api.ErrCompact, 1: api.ErrCompact,
		2: api.OK,
	} {
		if u, e := Shrink(s, rev); !reflect.DeepEqual(u, s) || e != want {
			t.Errorf("to %d it is %v, %d", rev, u, e)
		}
	}
}

// P5.4: room is made, and the revision goes on.
func TestShrinkMakesRoom(t *testing.T) {
	s := store(t, strings.Fields(strings.Repeat("a ", 60))...)
	s, e := Shrink(s, s.Rev)
	if e != api.OK || len(s.Log) != 0 {
		t.Fatalf("it is %v, %d", s, e)
	}
	s, events, e := Apply(s, muts("a=z"))
	if e != api.OK || tellEvents(events) != "61:a=z/1/61/61/0" || !May(s) {
		t.Errorf("it is %v, %d", events, e)
	}
}

// model is what a store is to be: what there was at each revision, kept whole.
type model struct {
	low, rev, log int
	at            []map[string]api.KV
	logs          []int
}

// do is Apply by the model: its things as a map, its events as their number.
func (m *model) do(l []api.Mut) (int, api.Errno) {
	next := maps.Clone(m.at[m.rev])
	events, most := 0, 0
	for _, x := range l {
		old, is := next[x.Key]
		if x.Gone && !is {
			continue
		}
		events++
		if x.Gone {
			delete(next, x.Key)
		} else {
			y := api.KV{Key: x.Key, Value: x.Value, Create: m.rev + 1, Mod: m.rev + 1, Version: old.Version + 1, Lease: x.Lease}
			if is {
				y.Create = old.Create
			}
			next[x.Key] = y
		}
		most = max(most, len(next))
	}
	if events == 0 {
		return 0, api.OK
	}
	if m.log+events > 60 || most > 30 {
		return 0, api.ErrFull
	}
	m.rev++
	m.log += events
	m.at, m.logs = append(m.at, next), append(m.logs, events)
	return events, api.OK
}

// shrink is Shrink by the model.
func (m *model) shrink(rev int) api.Errno {
	switch {
	case rev < 0 || rev > m.rev:
		return api.ErrRev
	case rev < m.low:
		return api.ErrCompact
	}
	m.low, m.log = rev, 0
	for _, n := range m.logs[rev:] {
		m.log += n
	}
	return api.OK
}

// check holds all that the store tells of what there was against the model.
func (m *model) check(t *testing.T, s api.Store) {
	t.Helper()
	if !May(s) || s.Rev != m.rev || s.Low != m.low || len(s.Log) != m.log {
		t.Fatalf("it may be: %v; it is %v", May(s), s)
	}
	for rev := m.low - 1; rev <= m.rev+1; rev++ {
		want, e := m.at[m.rev], api.OK
		switch {
		case rev == 0:
		case rev < 0 || rev > m.rev:
			want, e = nil, api.ErrRev
		case rev < m.low:
			want, e = nil, api.ErrCompact
		default:
			want = m.at[rev]
		}
		var sorted []api.KV
		for _, k := range slices.Sorted(maps.Keys(want)) {
			sorted = append(sorted, want[k])
		}
		if got, ge := At(s, rev); !slices.Equal(got, sorted) || ge != e {
			t.Fatalf("At %d is %v, %d; not %v, %d", rev, got, ge, sorted, e)
		}
	}
}

// P5.5
func TestOfAStoreThatMayBeComesOne(t *testing.T) {
	random := rand.New(rand.NewSource(5))
	for range 20 {
		s, m := New(), &model{at: []map[string]api.KV{{}}}
		for range 200 {
			if random.Intn(6) == 0 {
				rev := m.low + random.Intn(m.rev-m.low+4) - 2
				next, e := Shrink(s, rev)
				if want := m.shrink(rev); e != want {
					t.Fatalf("Shrink to %d is %d, not %d", rev, e, want)
				}
				s = next
			} else {
				l := randomList(random)
				next, events, e := Apply(s, l)
				if n, want := m.do(l); len(events) != n || e != want {
					t.Fatalf("Apply of %v is %d events, %d; not %d, %d", l, len(events), e, n, want)
				}
				if len(events) > 0 && !slices.Equal(next.Log[len(next.Log)-len(events):], events) {
					t.Fatalf("the events %v are not the last ones of %v", events, next.Log)
				}
				s = next
			}
			m.check(t, s)
		}
	}
}

// randomList is a list that may be done, of few keys or of many.
func randomList(random *rand.Rand) []api.Mut {
	var l []api.Mut
	often := random.Intn(4)
	for _, i := range random.Perm(36)[:random.Intn(9)] {
		l = append(l, api.Mut{
			Gone:  random.Intn(4) < often,
			Key:   fmt.Sprintf("k%d", i),
			Value: fmt.Sprint(random.Intn(3)),
			Lease: random.Intn(3),
		})
	}
	return l
}

// R1: stores that may not be, and numbers from both ends, are no reason to panic.
func TestNothingPanics(t *testing.T) {
	x := api.KV{Key: "b", Create: math.MaxInt, Mod: math.MinInt, Version: math.MaxInt, Lease: -1}
	stores := []api.Store{
		{Rev: -1}, {Rev: math.MaxInt}, {Rev: math.MinInt}, {Low: math.MaxInt}, {Low: math.MinInt},
		{Rev: math.MaxInt, Low: math.MaxInt, Base: []api.KV{x, x, {}}},
		{Rev: 3, Base: []api.KV{{Key: "b"}, {Key: "a"}, {Key: "b"}}, Log: []api.Event{{Rev: 9, KV: x}, {Rev: 2, Gone: true, KV: x}, {}}},
		{Rev: 3, Base: make([]api.KV, 50), Log: make([]api.Event, 100)},
	}
	lists := [][]api.Mut{nil, muts("a"), muts("b -a"), make([]api.Mut, 31), some("k", 30)}
	for i, s := range stores {
		if May(s) {
			t.Errorf("case %d may be", i)
		}
		Now(s)
		for _, rev := range []int{math.MinInt, -1, 0, 1, 3, math.MaxInt} {
			At(s, rev)
			Shrink(s, rev)
		}
		for _, l := range lists {
			Apply(s, l)
		}
	}
}

// R5: what is handed in is not changed, also where its lists have room behind them; what is answered shares no lists.
func TestNothingIsShared(t *testing.T) {
	whole, e := Shrink(store(t, "a=1 b", "c", "d", "e -b"), 1)
	if e != api.OK {
		t.Fatal(e)
	}
	last := len(whole.Log) - 2
	s := whole
	s.Rev, s.Log = 3, whole.Log[:last]
	before := copied(whole)
	l := muts("x a=2 -c")
	u, events, e := Apply(s, l)
	if e != api.OK || len(events) != 3 || !May(s) || !May(u) {
		t.Fatalf("it is %v, %v, %d", u, events, e)
	}
	if !reflect.DeepEqual(whole, before) || !reflect.DeepEqual(l, muts("x a=2 -c")) {
		t.Errorf("what was handed in is now %v, %v", whole, l)
	}
	kept := copied(u)
	clear(events)
	if !reflect.DeepEqual(u, kept) {
		t.Error("events are shared with the store's log")
	}
	k, _ := Shrink(s, 2)
	now, at, still := Now(s), first(At(s, 2)), first(At(s, 1))
	for _, l := range [][]api.KV{u.Base, k.Base, now, at, still} {
		clear(l)
	}
	for _, l := range [][]api.Event{u.Log, k.Log} {
		clear(l)
	}
	if !reflect.DeepEqual(whole, before) {
		t.Errorf("what was answered is shared with what was handed in: %v", whole)
	}
}

func first(l []api.KV, _ api.Errno) []api.KV { return l }
