package txn

import (
	"fmt"
	"math"
	"math/rand"
	"reflect"
	"slices"
	"strings"
	"testing"

	"baton/api"
	"baton/mvcc"
)

// laid is s, in which lists were done, none of which may fail.
func laid(t *testing.T, s api.Store, lists ...[]api.Mut) api.Store {
	t.Helper()
	for _, l := range lists {
		next, _, e := mvcc.Apply(s, l)
		if e != api.OK {
			t.Fatalf("Apply of %v is %d", l, e)
		}
		s = next
	}
	return s
}

// two is a store of "a", of Create 1, Mod 2, Version 2 and the value "n", and of "b", of Create 2 and Version 1.
func two(t *testing.T) api.Store {
	t.Helper()
	return laid(t, mvcc.New(), []api.Mut{{Key: "a", Value: "m", Lease: 8}}, []api.Mut{{Key: "a", Value: "n", Lease: 8}, {Key: "b"}})
}

// P6.1
func TestHoldsOfNumbers(t *testing.T) {
	x := api.KV{Key: "x", Value: "v", Create: 10, Mod: 20, Version: 5, Lease: 7}
	l := []api.KV{{Key: "w", Create: 99, Mod: 99, Version: 99}, x, {Key: "y", Create: 77, Mod: 77, Version: 77}}
	for what, n := range map[int]int{api.Create: 10, api.Mod: 20, api.Version: 5} {
		for _, by := range []int{math.MinInt, -1, 0, 1, n - 1, n, n + 1, math.MaxInt} {
			for how, want := range map[int]bool{api.Equal: n == by, api.Less: n < by, api.Greater: n > by} {
				c := api.Cmp{Key: "x", What: what, How: how, N: by, Value: "not used"}
				if got := Holds(l, c); got != want {
					t.Errorf("%v holds: %v", c, got)
				}
			}
		}
	}
}

// P6.1
func TestHoldsOfValues(t *testing.T) {
	values := []string{"", "\x00", "0", "A", "a", "a\x00", "aa", "ab", "b", "\x7f", "\x80", "\xc3\xa4", "\xff", strings.Repeat("z", 30)}
	for _, its := range values {
		l := []api.KV{{Key: "w", Value: "?"}, {Key: "x", Value: its, Create: 1, Mod: 2, Version: 2}}
		for _, by := range values {
			for how, want := range map[int]bool{api.Equal: its == by, api.Less: its < by, api.Greater: its > by} {
				c := api.Cmp{Key: "x", What: api.Value, How: how, N: 1, Value: by}
				if got := Holds(l, c); got != want {
					t.Errorf("of %q %v holds: %v", its, c, got)
				}
			}
		}
	}
}

// P6.1
func TestHoldsOfWhatIsNotThere(t *testing.T) {
	for _, l := range [][]api.KV{nil, {{Key: "x", Value: "v", Create: 3, Mod: 3, Version: 1}}} {
		for _, what := range []int{api.Create, api.Mod, api.Version} {
			for n, want := range map[int][3]bool{0: {true, false, false}, 1: {false, true, false}, -1: {false, false, true}} {
				for i, how := range []int{api.Equal, api.Less, api.Greater} {
					if got := Holds(l, api.Cmp{Key: "y", What: what, How: how, N: n}); got != want[i] {
						t.Errorf("What %d, How %d, N %d: %v", what, how, n, got)
					}
				}
			}
		}
		for value, want := range map[string][3]bool{"": {true, false, false}, "\x00": {false, true, false}} {
			for i, how := range []int{api.Equal, api.Less, api.Greater} {
				if got := Holds(l, api.Cmp{Key: "y", What: api.Value, How: how, Value: value}); got != want[i] {
					t.Errorf("How %d, Value %q: %v", how, value, got)
				}
			}
		}
	}
}

// P6.1: keys are asked as they are, whatever else they may be.
func TestHoldsAsksTheFirstThingOfTheKey(t *testing.T) {
	l := []api.KV{{Key: "b", Create: 4}, {Key: "a", Create: 5}, {Key: "b", Create: 6}, {Key: "", Create: 7}}
	for k, n := range map[string]int{"b": 4, "a": 5, "": 7, "A": 0, "bb": 0} {
		if !Holds(l, api.Cmp{Key: k, What: api.Create, How: api.Equal, N: n}) {
			t.Errorf("Create of %q is not %d", k, n)
		}
	}
}

// P6.1
func TestHoldsOfWrongQuestions(t *testing.T) {
	l := []api.KV{{Key: "x", Create: 1, Mod: 1, Version: 1}}
	for _, k := range []string{"x", "y"} {
		for _, wrong := range []int{0, -1, 5, math.MinInt, math.MaxInt} {
			for how := range 5 {
				if Holds(l, api.Cmp{Key: k, What: wrong, How: how}) {
					t.Errorf("of %q What %d, How %d holds", k, wrong, how)
				}
			}
		}
		for _, wrong := range []int{0, -1, 4, math.MinInt, math.MaxInt} {
			for what := range 6 {
				for n := range 3 {
					if Holds(l, api.Cmp{Key: k, What: what, How: wrong, N: n}) {
						t.Errorf("of %q What %d, How %d holds", k, what, wrong)
					}
				}
			}
		}
	}
}

// P6.1
func TestAll(t *testing.T) {
	l := mvcc.Now(two(t))
	yes, no, wrong := Made("a", 1), Made("b", 1), api.Cmp{Key: "a", What: 9, How: api.Equal}
	for i, c := range []struct {
		cs   []api.Cmp
		want bool
	}{
		{nil, true}, {[]api.Cmp{}, true},
		{[]api.Cmp{yes}, true}, {[]api.Cmp{no}, false}, {[]api.Cmp{wrong}, false},
		{[]api.Cmp{yes, yes}, true}, {[]api.Cmp{yes, no}, false}, {[]api.Cmp{no, yes}, false}, {[]api.Cmp{yes, no, yes}, false},
		{[]api.Cmp{yes, yes, wrong}, false},
		// How many there may be is for Do to hold.
		{slices.Repeat([]api.Cmp{yes}, 9), true},
		{append(slices.Repeat([]api.Cmp{yes}, 9), no), false},
	} {
		if got := All(l, c.cs); got != c.want {
			t.Errorf("case %d: %v", i, got)
		}
	}
}

// P6.2
func TestDo(t *testing.T) {
	s := two(t)
	then, other := []api.Mut{{Key: "x", Value: "1", Lease: 4}, {Gone: true, Key: "b"}}, []api.Mut{{Key: "y"}}
	for i, c := range []struct {
		cs   []api.Cmp
		want bool
	}{
		{nil, true},
		{[]api.Cmp{Made("a", 1)}, true},
		{[]api.Cmp{Made("a", 1), Made("b", 2), Absent("x"), Absent("y")}, true},
		{[]api.Cmp{Made("a", 2)}, false},
		{[]api.Cmp{Made("a", 1), Absent("b")}, false},
		{[]api.Cmp{Absent("b"), Made("a", 1)}, false},
	} {
		l := other
		if c.want {
			l = then
		}
		wantStore, wantEvents, _ := mvcc.Apply(s, l)
		u, yes, events, e := Do(s, api.Txn{If: c.cs, Then: then, Else: other})
		if yes != c.want || e != api.OK || !reflect.DeepEqual(u, wantStore) || !slices.Equal(events, wantEvents) || len(events) != len(l) {
			t.Errorf("case %d: %v, %v, %v, %d", i, u, yes, events, e)
		}
	}
}

// P6.2: what is done of nothing is nothing, but whether all holds is told.
func TestDoWithoutEvents(t *testing.T) {
	s := two(t)
	gone := []api.Mut{{Gone: true, Key: "z"}}
	put := []api.Mut{{Key: "x"}}
	for i, c := range []struct {
		t    api.Txn
		want bool
	}{
		{api.Txn{}, true},
		{api.Txn{Else: put}, true},
		{api.Txn{Then: gone, Else: put}, true},
		{api.Txn{If: []api.Cmp{Absent("a")}, Then: put}, false},
		{api.Txn{If: []api.Cmp{Absent("a")}, Then: put, Else: gone}, false},
	} {
		if u, yes, events, e := Do(s, c.t); yes != c.want || e != api.OK || len(events) != 0 || !reflect.DeepEqual(u, s) {
			t.Errorf("case %d: %v, %v, %v, %d", i, u, yes, events, e)
		}
	}
}

// P6.2: it is asked what there is at Rev, not at Low.
func TestDoAsksWhatThereIsNow(t *testing.T) {
	s, e := mvcc.Shrink(laid(t, two(t), []api.Mut{{Gone: true, Key: "a"}}), 1)
	if e != api.OK {
		t.Fatal(e)
	}
	if _, yes, events, e := Do(s, Put("a", "new", 0)); !yes || e != api.OK || len(events) != 1 {
		t.Errorf("Put of what is gone is %v, %v, %d", yes, events, e)
	}
	if _, yes, _, e := Do(s, Put("b", "new", 0)); yes || e != api.OK {
		t.Errorf("Put of what came later is %v, %d", yes, e)
	}
}

// P6.2: questions are all asked of what was there ahead, not of what Then does.
func TestDoAsksAhead(t *testing.T) {
	cs := []api.Cmp{Absent("x"), Absent("y")}
	then := []api.Mut{{Key: "x"}, {Key: "y"}}
	s, yes, events, e := Do(two(t), api.Txn{If: cs, Then: then})
	if !yes || len(events) != 2 || e != api.OK {
		t.Errorf("it is %v, %v, %d", yes, events, e)
	}
	if _, yes, events, e := Do(s, api.Txn{If: cs, Then: then}); yes || len(events) != 0 || e != api.OK {
		t.Errorf("again it is %v, %v, %d", yes, events, e)
	}
}

// puts is so many things to lay, each of another key.
func puts(n int) []api.Mut {
	var l []api.Mut
	for i := range n {
		l = append(l, api.Mut{Key: fmt.Sprint("k", i)})
	}
	return l
}

// P6.2
func TestDoOfWrongTransactions(t *testing.T) {
	s := two(t)
	yes, no := Made("a", 1), Made("a", 2)
	with := func(what, how int) api.Cmp { return api.Cmp{Key: "a", What: what, How: how} }
	wrong := []api.Txn{
		{If: slices.Repeat([]api.Cmp{yes}, 5)},
		{If: slices.Repeat([]api.Cmp{no}, 5)},
		{Then: puts(5)},
		{Else: puts(5)},
		// The list that would not be done counts, too.
		{If: []api.Cmp{no}, Then: puts(5), Else: puts(1)},
		{If: []api.Cmp{yes}, Then: puts(1), Else: puts(5)},
		// So do questions behind one that does not hold.
		{If: []api.Cmp{no, with(0, 1)}, Else: puts(1)},
		{If: []api.Cmp{with(0, 1), no}, Else: puts(1)},
		{If: []api.Cmp{yes, yes, yes, with(1, 4)}, Then: puts(1)},
	}
	for _, n := range []int{math.MinInt, -1, 0, 5, math.MaxInt} {
		wrong = append(wrong, api.Txn{If: []api.Cmp{with(n, api.Equal)}, Then: puts(1), Else: puts(1)})
	}
	for _, n := range []int{math.MinInt, -1, 0, 4, math.MaxInt} {
		wrong = append(wrong, api.Txn{If: []api.Cmp{with(api.Create, n)}, Then: puts(1), Else: puts(1)})
	}
	for i, x := range wrong {
		if u, yes, events, e := Do(s, x); yes || e != api.ErrArg || len(events) != 0 || !reflect.DeepEqual(u, s) {
			t.Errorf("case %d: %v, %v, %v, %d", i, u, yes, events, e)
		}
	}
}

// P6.2
func TestDoAtTheEdges(t *testing.T) {
	s := two(t)
	yes, no := Made("a", 1), Made("a", 2)
	for i, x := range []api.Txn{
		{If: slices.Repeat([]api.Cmp{yes}, 4), Then: puts(4), Else: puts(4)},
		{If: slices.Repeat([]api.Cmp{no}, 4), Then: puts(4), Else: puts(4)},
	} {
		if _, yes, events, e := Do(s, x); yes != (i == 0) || e != api.OK || len(events) != 4 {
			t.Errorf("case %d: %v, %v, %d", i, yes, events, e)
		}
	}
	for what := api.Create; what <= api.Value; what++ {
		for how := api.Equal; how <= api.Greater; how++ {
			if _, _, _, e := Do(s, api.Txn{If: []api.Cmp{{What: what, How: how, N: -1, Value: strings.Repeat("v", 99)}}}); e != api.OK {
				t.Errorf("What %d, How %d: %d", what, how, e)
			}
		}
	}
}

// P6.2: Apply is asked of the one list that is done; beside its error nothing is told.
func TestDoTellsTheErrorsOfApply(t *testing.T) {
	s := two(t)
	last := api.Store{Rev: 1<<40 - 2, Low: 1<<40 - 2}
	no := []api.Cmp{Made("a", 9)}
	twice := []api.Mut{{Key: "x"}, {Key: "x"}}
	long := []api.Mut{{Key: "x", Value: strings.Repeat("v", 21)}}
	for i, c := range []struct {
		s    api.Store
		t    api.Txn
		yes  bool
		e    api.Errno
		done int
	}{
		{s, api.Txn{Then: twice}, false, api.ErrArg, 0},
		{s, api.Txn{Then: long}, false, api.ErrArg, 0},
		{s, api.Txn{Then: []api.Mut{{}}, Else: puts(1)}, false, api.ErrArg, 0},
		{s, api.Txn{Then: []api.Mut{{Key: "x", Lease: -1}}}, false, api.ErrArg, 0},
		{s, api.Txn{If: no, Then: puts(1), Else: twice}, false, api.ErrArg, 0},
		{last, api.Txn{Then: puts(1)}, false, api.ErrFull, 0},
		{last, api.Txn{If: no, Else: puts(1)}, false, api.ErrFull, 0},
		{last, api.Txn{Then: []api.Mut{{Gone: true, Key: "x"}}}, true, api.OK, 0},
		// The other list's faults are nobody's.
		{s, api.Txn{Then: puts(2), Else: twice}, true, api.OK, 2},
		{s, api.Txn{If: no, Then: long, Else: puts(3)}, false, api.OK, 3},
		{last, api.Txn{If: no, Then: puts(1)}, false, api.OK, 0},
	} {
		u, yes, events, e := Do(c.s, c.t)
		if yes != c.yes || e != c.e || len(events) != c.done || (c.done == 0) != reflect.DeepEqual(u, c.s) {
			t.Errorf("case %d: %v, %v, %v, %d", i, u, yes, events, e)
		}
	}
}

// P6.3
func TestWhatIsAskedAndDone(t *testing.T) {
	if got := Absent("k"); got != (api.Cmp{Key: "k", What: 1, How: 1}) {
		t.Errorf("Absent is %v", got)
	}
	if got := Made("k", 7); got != (api.Cmp{Key: "k", What: 1, How: 1, N: 7}) {
		t.Errorf("Made is %v", got)
	}
	put := api.Txn{If: []api.Cmp{{Key: "k", What: 1, How: 1}}, Then: []api.Mut{{Key: "k", Value: "v", Lease: 9}}}
	if got := Put("k", "v", 9); !reflect.DeepEqual(got, put) {
		t.Errorf("Put is %v", got)
	}
	drop := api.Txn{If: []api.Cmp{{Key: "k", What: 1, How: 1, N: 7}}, Then: []api.Mut{{Gone: true, Key: "k"}}}
	if got := Drop("k", 7); !reflect.DeepEqual(got, drop) {
		t.Errorf("Drop is %v", got)
	}
	// They take all arguments as they are.
	if got := Put("", strings.Repeat("v", 99), -1); got.Then[0] != (api.Mut{Value: strings.Repeat("v", 99), Lease: -1}) {
		t.Errorf("Put is %v", got)
	}
	if got := Drop("", math.MinInt); got.If[0].N != math.MinInt || got.Then[0].Key != "" {
		t.Errorf("Drop is %v", got)
	}
}

// P6.3, P6.4, and the chapter's example.
func TestPutAndDrop(t *testing.T) {
	s, yes, events, e := Do(mvcc.New(), Put("a", "1", 3))
	if !yes || e != api.OK || len(events) != 1 {
		t.Fatalf("Put is %v, %v, %d", yes, events, e)
	}
	a := api.KV{Key: "a", Value: "1", Create: 1, Mod: 1, Version: 1, Lease: 3}
	if !slices.Equal(mvcc.Now(s), []api.KV{a}) {
		t.Errorf("there is %v", mvcc.Now(s))
	}
	if u, yes, events, e := Do(s, Put("a", "2", 4)); yes || e != api.OK || len(events) != 0 || !reflect.DeepEqual(u, s) {
		t.Errorf("Put again is %v, %v, %d", yes, events, e)
	}
	for _, rev := range []int{0, 2, -1} {
		if u, yes, events, e := Do(s, Drop("a", rev)); yes || e != api.OK || len(events) != 0 || !reflect.DeepEqual(u, s) {
			t.Errorf("Drop of %d is %v, %v, %d", rev, yes, events, e)
		}
	}
	// What was laid again is still the one that was made.
	s = laid(t, s, []api.Mut{{Key: "a", Value: "3"}})
	s, yes, events, e = Do(s, Drop("a", 1))
	if !yes || e != api.OK || len(events) != 1 || !events[0].Gone || len(mvcc.Now(s)) != 0 {
		t.Errorf("Drop is %v, %v, %d", yes, events, e)
	}
	if u, yes, events, e := Do(s, Drop("a", 1)); yes || e != api.OK || len(events) != 0 || !reflect.DeepEqual(u, s) {
		t.Errorf("Drop again is %v, %v, %d", yes, events, e)
	}
	// Who made it anew made another one.
	s, _, _, _ = Do(s, Put("a", "4", 0))
	if u, yes, _, _ := Do(s, Drop("a", 1)); yes || !reflect.DeepEqual(u, s) {
		t.Error("a Drop of the old one takes the new one")
	}
}

// P6.4
func TestJustOneOfBothIsDone(t *testing.T) {
	random := rand.New(rand.NewSource(6))
	s := mvcc.New()
	for range 4000 {
		if random.Intn(8) == 0 || len(s.Log) > 50 {
			s, _ = mvcc.Shrink(s, s.Rev)
		}
		x := randomTxn(random, s.Rev)
		ahead := mvcc.Now(s)
		u, yes, events, e := Do(s, x)
		if e != api.OK {
			t.Fatalf("Do of %v is %d", x, e)
		}
		l := x.Else
		if yes {
			l = x.Then
		}
		want, wantEvents, _ := mvcc.Apply(s, l)
		if yes != All(ahead, x.If) || !reflect.DeepEqual(u, want) || !slices.Equal(events, wantEvents) || !mvcc.May(u) {
			t.Fatalf("Do of %v to %v is %v, %v, %v", x, ahead, u, yes, events)
		}
		s = u
	}
}

// randomTxn is one that may be done, with questions that hold about as often as not.
func randomTxn(random *rand.Rand, rev int) api.Txn {
	list := func() []api.Mut {
		var l []api.Mut
		for _, i := range random.Perm(6)[:random.Intn(5)] {
			l = append(l, api.Mut{Gone: random.Intn(2) == 0, Key: fmt.Sprint(i), Value: fmt.Sprint(random.Intn(3))})
		}
		return l
	}
	x := api.Txn{Then: list(), Else: list()}
	for range random.Intn(3) {
		x.If = append(x.If, api.Cmp{
			Key:   fmt.Sprint(random.Intn(6)),
			What:  1 + random.Intn(4),
			How:   1 + random.Intn(3),
			N:     random.Intn(rev + 2),
			Value: fmt.Sprint(random.Intn(3)),
		})
	}
	return x
}

// R1: stores that may not be are no reason to panic.
func TestNothingPanics(t *testing.T) {
	x := api.KV{Create: math.MinInt, Mod: math.MaxInt, Version: -1}
	for _, s := range []api.Store{
		{Rev: math.MinInt}, {Rev: math.MaxInt, Low: math.MaxInt, Base: []api.KV{x, x}},
		{Rev: 1, Base: make([]api.KV, 99), Log: make([]api.Event, 99)},
	} {
		for _, d := range []api.Txn{{}, Put("a", "", 0), Put("", "", -1), Drop("", math.MinInt), Drop("", 0)} {
			Do(s, d)
		}
	}
}

// R5
func TestNothingIsChanged(t *testing.T) {
	s, again := two(t), two(t)
	x := api.Txn{If: []api.Cmp{Made("a", 1), Absent("c")}, Then: puts(3), Else: puts(2)}
	before := api.Txn{If: slices.Clone(x.If), Then: slices.Clone(x.Then), Else: slices.Clone(x.Else)}
	u, yes, events, e := Do(s, x)
	if !yes || len(events) != 3 || e != api.OK {
		t.Fatalf("it is %v, %v, %d", yes, events, e)
	}
	clear(u.Log)
	if slices.Contains(events, api.Event{}) {
		t.Error("events are shared with the store's log")
	}
	clear(events)
	if !reflect.DeepEqual(s, again) || !reflect.DeepEqual(x, before) {
		t.Errorf("what was handed in is now %v, %v", s, x)
	}
}
