package lease

import (
	"math"
	"math/rand"
	"reflect"
	"slices"
	"testing"

	"baton/api"
)

const maxNumber = 1<<40 - 1

// granted is leases of TTLs, each granted at its place's moment.
func granted(t *testing.T, ttls ...int) api.Leases {
	t.Helper()
	var l api.Leases
	for now, ttl := range ttls {
		next, _, e := Grant(l, ttl, now)
		if e != api.OK {
			t.Fatalf("Grant of %d at %d is %d", ttl, now, e)
		}
		l = next
	}
	return l
}

// ids tells the Ids of l.
func ids(l api.Leases) []int {
	var s []int
	for _, x := range l.L {
		s = append(s, x.Id)
	}
	return s
}

// copied is l in memory of its own.
func copied(l api.Leases) api.Leases {
	l.L = slices.Clone(l.L)
	return l
}

// P8.1
func TestMay(t *testing.T) {
	of := func(next int, l ...api.Lease) api.Leases { return api.Leases{Next: next, L: l} }
	many := func(n int) api.Leases {
		l := api.Leases{Next: 100}
		for i := range n {
			l.L = append(l.L, api.Lease{Id: i + 1, TTL: 1})
		}
		return l
	}
	for i, c := range []struct {
		l    api.Leases
		want bool
	}{
		{of(0), true}, {of(maxNumber), true}, {of(-1), false}, {of(maxNumber + 1), false},
		{of(math.MinInt), false}, {of(math.MaxInt), false},

		{many(7), true}, {many(8), true}, {many(9), false},

		// Ids.
		{of(5, api.Lease{Id: 1, TTL: 1}), true},
		{of(5, api.Lease{Id: 5, TTL: 1}), true},
		{of(5, api.Lease{Id: 6, TTL: 1}), false},
		{of(5, api.Lease{Id: 0, TTL: 1}), false},
		{of(5, api.Lease{Id: -1, TTL: 1}), false},
		{of(0, api.Lease{Id: 0, TTL: 1}), false},
		{of(maxNumber, api.Lease{Id: maxNumber, TTL: 1}), true},
		{of(maxNumber, api.Lease{Id: math.MaxInt, TTL: 1}), false},
		{of(maxNumber, api.Lease{Id: math.MinInt, TTL: 1}), false},
		{of(5, api.Lease{Id: 2, TTL: 1}, api.Lease{Id: 3, TTL: 1}, api.Lease{Id: 5, TTL: 1}), true},
		{of(5, api.Lease{Id: 2, TTL: 1}, api.Lease{Id: 2, TTL: 1}), false},
		{of(5, api.Lease{Id: 3, TTL: 1}, api.Lease{Id: 2, TTL: 1}), false},
		{of(5, api.Lease{Id: 1, TTL: 1}, api.Lease{Id: 4, TTL: 1}, api.Lease{Id: 3, TTL: 1}), false},
		{of(5, api.Lease{Id: 4, TTL: 1}, api.Lease{Id: 6, TTL: 1}), false},

		// TTLs.
		{of(5, api.Lease{Id: 1, TTL: 0}), false},
		{of(5, api.Lease{Id: 1, TTL: -1}), false},
		{of(5, api.Lease{Id: 1, TTL: 1000}), true},
		{of(5, api.Lease{Id: 1, TTL: 1001}), false},
		{of(5, api.Lease{Id: 1, TTL: math.MinInt}), false},
		{of(5, api.Lease{Id: 1, TTL: math.MaxInt}), false},
		{of(5, api.Lease{Id: 1, TTL: 1}, api.Lease{Id: 2, TTL: 0}), false},

		// Untils: the one that was granted last of all is over a TTL behind the last time.
		{of(5, api.Lease{Id: 1, TTL: 7, Until: 0}), true},
		{of(5, api.Lease{Id: 1, TTL: 7, Until: -1}), false},
		{of(5, api.Lease{Id: 1, TTL: 7, Until: maxNumber}), true},
		{of(5, api.Lease{Id: 1, TTL: 7, Until: maxNumber + 7}), true},
		{of(5, api.Lease{Id: 1, TTL: 7, Until: maxNumber + 8}), false},
		{of(5, api.Lease{Id: 1, TTL: 1000, Until: maxNumber + 1000}), true},
		{of(5, api.Lease{Id: 1, TTL: 1000, Until: maxNumber + 1001}), false},
		{of(5, api.Lease{Id: 1, TTL: 7, Until: math.MinInt}), false},
		{of(5, api.Lease{Id: 1, TTL: 7, Until: math.MaxInt}), false},
		{of(5, api.Lease{Id: 1, TTL: 1}, api.Lease{Id: 2, TTL: 1, Until: -1}), false},
	} {
		if got := May(c.l); got != c.want {
			t.Errorf("case %d: %v", i, got)
		}
	}
}

// P8.1
func TestHas(t *testing.T) {
	l := api.Leases{Next: 2, L: []api.Lease{{Id: 4}, {Id: 2}, {Id: 4}, {Id: -1}}}
	for id, want := range map[int]bool{4: true, 2: true, -1: true, 0: false, 1: false, 3: false, 5: false, math.MaxInt: false, math.MinInt: false} {
		if got := Has(l, id); got != want {
			t.Errorf("of %d it is %v", id, got)
		}
	}
	if Has(api.Leases{Next: 1}, 0) || Has(api.Leases{Next: 1}, 1) {
		t.Error("there is one where there is none")
	}
}

// P8.2
func TestGrant(t *testing.T) {
	l, id, e := Grant(api.Leases{}, 10, 5)
	if want := []api.Lease{{Id: 1, TTL: 10, Until: 15}}; id != 1 || e != api.OK || l.Next != 1 || !slices.Equal(l.L, want) {
		t.Errorf("it is %v, %d, %d", l, id, e)
	}
	// It stands behind all, and of Next, whatever else there is.
	before := api.Leases{Next: 6, L: []api.Lease{{Id: 2, TTL: 3, Until: 4}, {Id: 6, TTL: 5, Until: 9}}}
	l, id, e = Grant(before, 1000, maxNumber)
	want := []api.Lease{{Id: 2, TTL: 3, Until: 4}, {Id: 6, TTL: 5, Until: 9}, {Id: 7, TTL: 1000, Until: maxNumber + 1000}}
	if id != 7 || e != api.OK || l.Next != 7 || !slices.Equal(l.L, want) || !May(l) {
		t.Errorf("it is %v, %d, %d", l, id, e)
	}
	for _, c := range []struct{ next, ttl, now int }{{0, 1, 0}, {0, 1000, 0}, {maxNumber - 1, 1, maxNumber}} {
		l, id, e := Grant(api.Leases{Next: c.next}, c.ttl, c.now)
		if want := []api.Lease{{Id: c.next + 1, TTL: c.ttl, Until: c.now + c.ttl}}; id != c.next+1 || e != api.OK || l.Next != id || !slices.Equal(l.L, want) || !May(l) {
			t.Errorf("of %v it is %v, %d, %d", c, l, id, e)
		}
	}
}

// P8.2: of several errors the first one is told.
func TestGrantOfWrongArguments(t *testing.T) {
	one, full := granted(t, 5), granted(t, 5, 5, 5, 5, 5, 5, 5, 5)
	last := api.Leases{Next: maxNumber, L: one.L}
	for i, c := range []struct {
		l        api.Leases
		ttl, now int
		e        api.Errno
	}{
		{one, 0, 5, api.ErrArg}, {one, -1, 5, api.ErrArg}, {one, 1001, 5, api.ErrArg},
		{one, math.MinInt, 5, api.ErrArg}, {one, math.MaxInt, 5, api.ErrArg},
		{one, 5, -1, api.ErrArg}, {one, 5, maxNumber + 1, api.ErrArg},
		{one, 5, math.MinInt, api.ErrArg}, {one, 5, math.MaxInt, api.ErrArg},
		{full, 0, 5, api.ErrArg}, {full, 5, -1, api.ErrArg}, {last, 1001, 5, api.ErrArg}, {last, 5, maxNumber + 1, api.ErrArg},
		{full, 5, 5, api.ErrFull}, {full, 1000, maxNumber, api.ErrFull},
		{api.Leases{Next: 3, L: make([]api.Lease, 9)}, 5, 5, api.ErrFull},
		{last, 5, 5, api.ErrFull}, {last, 1, 0, api.ErrFull},
		{api.Leases{Next: maxNumber + 1}, 5, 5, api.ErrFull}, {api.Leases{Next: math.MaxInt}, 5, 5, api.ErrFull},
	} {
		if l, id, e := Grant(c.l, c.ttl, c.now); !reflect.DeepEqual(l, c.l) || id != 0 || e != c.e {
			t.Errorf("case %d: %v, %d, %d", i, l, id, e)
		}
	}
	if _, id, e := Grant(granted(t, 5, 5, 5, 5, 5, 5, 5), 5, 5); id != 8 || e != api.OK {
		t.Errorf("the eighth one is %d, %d", id, e)
	}
}

// P8.3
func TestKeep(t *testing.T) {
	before := api.Leases{Next: 9, L: []api.Lease{{Id: 2, TTL: 10, Until: 15}, {Id: 5, TTL: 100, Until: 300}, {Id: 9, TTL: 1000, Until: 1500}}}
	for i, c := range []struct{ id, now, ttl, until int }{
		{2, 12, 10, 22}, {2, 6, 10, 16}, {2, 15, 10, 25}, {2, 99, 10, 109}, {2, maxNumber, 10, maxNumber + 10},
		// Nothing is taken of what was granted.
		{2, 5, 10, 15}, {2, 4, 10, 15}, {2, 0, 10, 15},
		{5, 200, 100, 300}, {5, 201, 100, 301},
		{9, 0, 1000, 1500}, {9, 501, 1000, 1501}, {9, maxNumber, 1000, maxNumber + 1000},
	} {
		l, ttl, e := Keep(before, c.id, c.now)
		want := copied(before)
		for j, x := range want.L {
			if x.Id == c.id {
				want.L[j].Until = c.until
			}
		}
		if !reflect.DeepEqual(l, want) || ttl != c.ttl || e != api.OK || !May(l) {
			t.Errorf("case %d: %v, %d, %d", i, l, ttl, e)
		}
	}
	// The first one of that Id alone, wherever it stands.
	twice := api.Leases{L: []api.Lease{{Id: 7, TTL: 1}, {Id: 3, TTL: 2}, {Id: 3, TTL: 4}}}
	if l, ttl, e := Keep(twice, 3, 5); ttl != 2 || e != api.OK || l.L[1].Until != 7 || l.L[0].Until != 0 || l.L[2].Until != 0 {
		t.Errorf("it is %v, %d, %d", l, ttl, e)
	}
}

// P8.3: of several errors the first one is told.
func TestKeepOfWrongArguments(t *testing.T) {
	before := granted(t, 10, 20)
	for _, c := range []struct {
		id, now int
		e       api.Errno
	}{
		{1, -1, api.ErrArg}, {1, maxNumber + 1, api.ErrArg}, {1, math.MinInt, api.ErrArg}, {1, math.MaxInt, api.ErrArg},
		{3, -1, api.ErrArg}, {0, maxNumber + 1, api.ErrArg},
		{3, 0, api.ErrLease}, {0, 5, api.ErrLease}, {-1, 5, api.ErrLease}, {3, maxNumber, api.ErrLease},
		{math.MinInt, 5, api.ErrLease}, {math.MaxInt, 5, api.ErrLease},
	} {
		if l, ttl, e := Keep(before, c.id, c.now); !reflect.DeepEqual(l, before) || ttl != 0 || e != c.e {
			t.Errorf("of %d at %d it is %v, %d, %d", c.id, c.now, l, ttl, e)
		}
	}
	if _, _, e := Keep(api.Leases{}, 0, 0); e != api.ErrLease {
		t.Errorf("where there is none it is %d", e)
	}
}

// P8.4
func TestEnd(t *testing.T) {
	before := granted(t, 10, 20, 30)
	for id, want := range map[int][]int{1: {2, 3}, 2: {1, 3}, 3: {1, 2}} {
		l, e := End(before, id)
		if !slices.Equal(ids(l), want) || l.Next != 3 || e != api.OK || !May(l) {
			t.Errorf("of %d it is %v, %d", id, l, e)
		}
		for _, x := range l.L {
			if x != before.L[x.Id-1] {
				t.Errorf("of %d another one is %v", id, x)
			}
		}
	}
	for _, id := range []int{0, -1, 4, math.MinInt, math.MaxInt} {
		if l, e := End(before, id); !reflect.DeepEqual(l, before) || e != api.ErrLease {
			t.Errorf("of %d it is %v, %d", id, l, e)
		}
	}
	if l, e := End(api.Leases{Next: 4}, 4); l.Next != 4 || len(l.L) != 0 || e != api.ErrLease {
		t.Errorf("where there is none it is %v, %d", l, e)
	}
	// The first one of that Id alone, wherever it stands.
	twice := api.Leases{L: []api.Lease{{Id: 7}, {Id: 3, TTL: 2}, {Id: 3, TTL: 4}}}
	if l, e := End(twice, 3); e != api.OK || !slices.Equal(l.L, []api.Lease{{Id: 7}, {Id: 3, TTL: 4}}) {
		t.Errorf("it is %v, %d", l, e)
	}
}

// P8.4
func TestDue(t *testing.T) {
	l := api.Leases{L: []api.Lease{{Id: 1, Until: 15}, {Id: 3, Until: 10}, {Id: 4, Until: 20}, {Id: 9, Until: maxNumber + 1000}}}
	for now, want := range map[int][]int{
		math.MinInt: nil, -1: nil, 0: nil, 9: nil, 10: {3}, 14: {3}, 15: {1, 3}, 16: {1, 3}, 19: {1, 3}, 20: {1, 3, 4},
		maxNumber: {1, 3, 4}, maxNumber + 999: {1, 3, 4}, maxNumber + 1000: {1, 3, 4, 9}, math.MaxInt: {1, 3, 4, 9},
	} {
		if got := Due(l, now); !slices.Equal(got, want) {
			t.Errorf("at %d it is %v", now, got)
		}
	}
	if got := Due(api.Leases{Next: 5}, math.MaxInt); len(got) != 0 {
		t.Errorf("where there is none it is %v", got)
	}
	// They come as they stand.
	if got := Due(api.Leases{L: []api.Lease{{Id: 5}, {Id: 2}, {Id: 5, Until: 9}, {Id: 2}}}, 0); !slices.Equal(got, []int{5, 2, 2}) {
		t.Errorf("it is %v", got)
	}
}

// P8.5
func TestDrops(t *testing.T) {
	kvs := []api.KV{
		{Key: "b", Value: "v", Create: 1, Mod: 2, Version: 2, Lease: 1}, {Key: "c"}, {Key: "a", Lease: 2},
		{Key: "d", Lease: 1}, {Key: "e", Lease: -1}, {Key: "b", Lease: 1}, {Lease: 1},
	}
	gone := func(keys ...string) []api.Mut {
		var l []api.Mut
		for _, k := range keys {
			l = append(l, api.Mut{Gone: true, Key: k})
		}
		return l
	}
	for id, want := range map[int][]api.Mut{1: gone("b", "d", "b", ""), 2: gone("a"), 3: nil, 0: nil, -1: gone("e"), math.MaxInt: nil, math.MinInt: nil} {
		if got := Drops(kvs, id); !slices.Equal(got, want) {
			t.Errorf("of %d it is %v", id, got)
		}
	}
	if got := Drops(nil, 1); len(got) != 0 {
		t.Errorf("of nothing it is %v", got)
	}
}

// The chapter's example.
func TestGrantedAndKept(t *testing.T) {
	l, id, e := Grant(api.Leases{}, 10, 5)
	if id != 1 || e != api.OK || l.L[0].Until != 15 {
		t.Fatalf("it is %v, %d, %d", l, id, e)
	}
	if l, ttl, e := Keep(l, 1, 12); ttl != 10 || e != api.OK || l.L[0].Until != 22 {
		t.Errorf("it is %v, %d, %d", l, ttl, e)
	}
}

// P8.6: leases by a model that keeps Untils and TTLs by their Ids, while a clock goes on.
func TestOfLeasesThatMayBeComeSuch(t *testing.T) {
	random := rand.New(rand.NewSource(8))
	for range 50 {
		var l api.Leases
		now, last := 0, 0
		until, ttls := map[int]int{}, map[int]int{}
		for range 300 {
			id := random.Intn(last + 2)
			_, there := until[id]
			var e, want api.Errno
			switch random.Intn(4) {
			case 0:
				ttl := 1 + random.Intn(30)
				l, id, e = Grant(l, ttl, now)
				if len(until) >= 8 {
					want = api.ErrFull
				} else if last++; id != last {
					t.Fatalf("behind %d Grant tells %d", last-1, id)
				}
				if want == api.OK {
					until[id], ttls[id] = now+ttl, ttl
				}
			case 1:
				var ttl int
				l, ttl, e = Keep(l, id, now)
				if want = none(there); ttl != ttls[id] {
					t.Fatalf("Keep of %d tells %d, not %d", id, ttl, ttls[id])
				}
				if there {
					until[id] = max(until[id], now+ttl)
				}
			case 2:
				l, e = End(l, id)
				want = none(there)
				delete(until, id)
				delete(ttls, id)
			default:
				now += random.Intn(6)
				for _, id := range Due(l, now) {
					if l, e = End(l, id); until[id] > now {
						t.Fatalf("at %d %d is due, that is till %d", now, id, until[id])
					}
					delete(until, id)
					delete(ttls, id)
				}
			}
			if e != want {
				t.Fatalf("it is %d, not %d", e, want)
			}
			check(t, l, last, until, ttls)
		}
	}
}

// none tells the error of one that is not there.
func none(there bool) api.Errno {
	if there {
		return api.OK
	}
	return api.ErrLease
}

// check holds l against what is to be.
func check(t *testing.T, l api.Leases, last int, until map[int]int, ttls map[int]int) {
	t.Helper()
	if !May(l) || l.Next != last || len(l.L) != len(until) {
		t.Fatalf("it may be: %v; it is %v, not %v", May(l), l, until)
	}
	for _, x := range l.L {
		if x.Until != until[x.Id] || x.TTL != ttls[x.Id] {
			t.Fatalf("it is %v, not till %d, of %d", x, until[x.Id], ttls[x.Id])
		}
	}
	for id := range last + 2 {
		if _, there := until[id]; Has(l, id) != there {
			t.Fatalf("of %d there is one: %v", id, there)
		}
	}
}

// P8.6
func TestWhoKeepsItKeepsIt(t *testing.T) {
	l := granted(t, 10, 10)
	for now := 9; now < 200; now += 9 {
		if slices.Contains(Due(l, now), 1) {
			t.Fatalf("at %d it is due", now)
		}
		kept, _, e := Keep(l, 1, now)
		if e != api.OK || slices.Contains(Due(kept, now+9), 1) || !slices.Contains(Due(kept, now+10), 1) {
			t.Fatalf("kept at %d it is %v, %d", now, kept, e)
		}
		l = kept
	}
	if !slices.Equal(Due(l, 200), []int{2}) {
		t.Errorf("the other one is not due: %v", l)
	}
}

// P8.6
func TestNoIdIsToldTwice(t *testing.T) {
	l := granted(t, 5, 5)
	for _, id := range []int{2, 1} {
		l, _ = End(l, id)
	}
	if l, id, e := Grant(l, 5, 0); id != 3 || e != api.OK || !slices.Equal(ids(l), []int{3}) {
		t.Errorf("behind two that ended it is %v, %d, %d", l, id, e)
	}
}

// R1: leases that may not be, and numbers from both ends, are no reason to panic.
func TestNothingPanics(t *testing.T) {
	numbers := []int{math.MinInt, -1, 0, 1, 1000, maxNumber, math.MaxInt}
	var all []api.Lease
	for _, n := range numbers {
		for _, m := range numbers {
			all = append(all, api.Lease{Id: n, TTL: m, Until: m})
		}
	}
	for _, next := range numbers {
		for n := range all {
			l := api.Leases{Next: next, L: all[n:min(n+8, len(all))]}
			May(l)
			for _, a := range numbers {
				Has(l, a)
				Due(l, a)
				End(l, a)
				for _, b := range numbers {
					Grant(l, a, b)
					Keep(l, a, b)
				}
			}
		}
	}
	Drops(make([]api.KV, 99), 0)
}

// R5: what is handed in is not changed, also where its list has room behind it; what is done shares nothing with it.
func TestNothingIsShared(t *testing.T) {
	whole := granted(t, 10, 20, 30)
	before := copied(whole)
	part := api.Leases{Next: 2, L: whole.L[:2]}
	more, id, _ := Grant(part, 5, 5)
	kept, ttl, _ := Keep(part, 1, 99)
	same, _, _ := Keep(part, 1, 0)
	less, e := End(part, 1)
	if id != 3 || ttl != 10 || e != api.OK {
		t.Fatalf("it is %d, %d, %d", id, ttl, e)
	}
	if !reflect.DeepEqual(whole, before) {
		t.Errorf("what was handed in is now %v", whole)
	}
	for _, l := range []api.Leases{more, kept, same, less} {
		clear(l.L)
	}
	if !reflect.DeepEqual(whole, before) {
		t.Errorf("what was answered is shared with what was handed in: %v", whole)
	}
}
