package hist

import (
	"maps"
	"math"
	"math/rand"
	"reflect"
	"slices"
	"strings"
	"testing"

	"baton/api"
)

// kv is a thing that may be.
func kv(k string, rev int) api.KV {
	return api.KV{Key: k, Value: "v" + k, Create: rev, Mod: rev, Version: 1}
}

// list is things of the keys that stand in s, each of another revision.
func list(s string) []api.KV {
	var l []api.KV
	for i, k := range strings.Fields(s) {
		l = append(l, kv(k, i+1))
	}
	return l
}

// keys is what list reads.
func keys(l []api.KV) string {
	var s []string
	for _, x := range l {
		s = append(s, x.Key)
	}
	return strings.Join(s, " ")
}

// revs tells which of several things of one key are left.
func revs(l []api.KV) []int {
	var n []int
	for _, x := range l {
		n = append(n, x.Create)
	}
	return n
}

// P4.1
func TestMayOfOrder(t *testing.T) {
	for s, want := range map[string]bool{
		"": true, "a": true, "a b": true, "a aa b ba": true, "A a": true, "a/ a0": true, "! ~": true,
		"b a": false, "a a": false, "a b a": false, "a b b": false, "a A": false, "aa a": false, "a c b": false,
	} {
		if got := May(list(s)); got != want {
			t.Errorf("May of %q is %v", s, got)
		}
	}
}

// P4.1
func TestMayOfEachField(t *testing.T) {
	const most = 1<<40 - 1
	long := strings.Repeat("k", 41)
	for i, c := range []struct {
		x    api.KV
		want bool
	}{
		{api.KV{}, false},
		{api.KV{Key: "a", Create: 1, Mod: 1, Version: 1}, true},
		{api.KV{Key: "", Create: 1, Mod: 1, Version: 1}, false},
		{api.KV{Key: " ", Create: 1, Mod: 1, Version: 1}, false},
		{api.KV{Key: "a\x7f", Create: 1, Mod: 1, Version: 1}, false},
		{api.KV{Key: long[:40], Create: 1, Mod: 1, Version: 1}, true},
		{api.KV{Key: long, Create: 1, Mod: 1, Version: 1}, false},
		{api.KV{Key: "a", Value: "\x00\xff \n", Create: 1, Mod: 1, Version: 1}, true},
		{api.KV{Key: "a", Value: long[:20], Create: 1, Mod: 1, Version: 1}, true},
		{api.KV{Key: "a", Value: long[:21], Create: 1, Mod: 1, Version: 1}, false},
		{api.KV{Key: "a", Create: 0, Mod: 1, Version: 1}, false},
		{api.KV{Key: "a", Create: -1, Mod: 1, Version: 1}, false},
		{api.KV{Key: "a", Create: math.MinInt, Mod: math.MaxInt, Version: 1}, false},
		{api.KV{Key: "a", Create: math.MaxInt, Mod: math.MinInt, Version: 1}, false},
		{api.KV{Key: "a", Create: most, Mod: most, Version: 1}, true},
		{api.KV{Key: "a", Create: most + 1, Mod: most + 1, Version: 1}, false},
		{api.KV{Key: "a", Create: 1, Mod: most, Version: 1}, true},
		{api.KV{Key: "a", Create: 1, Mod: most + 1, Version: 1}, false},
		{api.KV{Key: "a", Create: 1, Mod: math.MaxInt, Version: 1}, false},
		{api.KV{Key: "a", Create: 5, Mod: 4, Version: 1}, false},
		{api.KV{Key: "a", Create: 5, Mod: 4, Version: 0}, false},
		{api.KV{Key: "a", Create: 5, Mod: 5, Version: 0}, false},
		{api.KV{Key: "a", Create: 5, Mod: 5, Version: -1}, false},
		{api.KV{Key: "a", Create: 5, Mod: 5, Version: 2}, false},
		{api.KV{Key: "a", Create: 5, Mod: 7, Version: 1}, true},
		{api.KV{Key: "a", Create: 5, Mod: 7, Version: 3}, true},
		{api.KV{Key: "a", Create: 5, Mod: 7, Version: 4}, false},
		{api.KV{Key: "a", Create: 1, Mod: most, Version: most}, true},
		{api.KV{Key: "a", Create: 1, Mod: most, Version: most + 1}, false},
		{api.KV{Key: "a", Create: 5, Mod: 7, Version: math.MinInt}, false},
		{api.KV{Key: "a", Create: 5, Mod: 7, Version: math.MaxInt}, false},
		{api.KV{Key: "a", Create: 1, Mod: 1, Version: 1, Lease: most}, true},
		{api.KV{Key: "a", Create: 1, Mod: 1, Version: 1, Lease: most + 1}, false},
		{api.KV{Key: "a", Create: 1, Mod: 1, Version: 1, Lease: -1}, false},
	} {
		if got := May([]api.KV{c.x}); got != c.want {
			t.Errorf("case %d: May of %v is %v", i, c.x, got)
		}
		// One that may not be spoils a list wherever it stands.
		ahead := []api.KV{kv("!", 3), c.x}
		if got := May(ahead); got != c.want {
			t.Errorf("case %d: May of %v behind another one is %v", i, c.x, got)
		}
		behind := []api.KV{c.x, kv("~", 3)}
		if got := May(behind); got != c.want {
			t.Errorf("case %d: May of %v ahead of another one is %v", i, c.x, got)
		}
	}
}

// P4.1
func TestMayHasNoLimitOfItsOwn(t *testing.T) {
	var l []api.KV
	for c := byte(33); c <= 126; c++ {
		l = append(l, kv(string([]byte{c}), 1))
	}
	if !May(l) {
		t.Errorf("a list of %d things may not be", len(l))
	}
}

// P4.2
func TestFind(t *testing.T) {
	l := list("b d a d")
	for k, rev := range map[string]int{"b": 1, "d": 2, "a": 3} {
		if x, is := Find(l, k); x != kv(k, rev) || !is {
			t.Errorf("Find of %q is %v, %v", k, x, is)
		}
	}
	for _, k := range []string{"", "c", "D", "dd", "z", "\x00"} {
		if x, is := Find(l, k); x != (api.KV{}) || is {
			t.Errorf("Find of %q is %v, %v", k, x, is)
		}
		if x, is := Find(nil, k); x != (api.KV{}) || is {
			t.Errorf("Find of %q in nothing is %v, %v", k, x, is)
		}
	}
	if x, is := Find([]api.KV{{Value: "v"}}, ""); x.Value != "v" || !is {
		t.Errorf("Find of the empty key is %v, %v", x, is)
	}
}

// P4.2
func TestLay(t *testing.T) {
	for _, c := range []struct{ l, k, want string }{
		{"", "a", "a"},
		{"a c", "b", "a b c"},
		{"a c", "a", "a c"},
		{"a c", "c", "a c"},
		{"a c", "d", "a c d"},
		{"a c", "!", "! a c"},
		{"a c", "ca", "a c ca"},
		{"a ca", "c", "a c ca"},
		{"a a", "a", "a a"},
		// Lists that are in no order: the first one that is not below decides.
		{"c a c", "b", "b c a c"},
		{"c a c", "a", "a c a c"},
		{"c a c", "c", "c a c"},
		{"c a c", "d", "c a c d"},
		{"a c b", "b", "a b c b"},
	} {
		l := list(c.l)
		got := Lay(l, kv(c.k, 99))
		if keys(got) != c.want {
			t.Errorf("Lay of %q into %q is %q, not %q", c.k, c.l, keys(got), c.want)
		}
		if keys(l) != c.l || slices.Contains(revs(l), 99) {
			t.Errorf("Lay of %q into %q changed it: %v", c.k, c.l, l)
		}
		laid := slices.DeleteFunc(slices.Clone(got), func(x api.KV) bool { return x != kv(c.k, 99) })
		if len(laid) != 1 {
			t.Errorf("Lay of %q into %q is %v", c.k, c.l, got)
		}
	}
	// It is the first one of its key that gives its place.
	if got := revs(Lay(list("a b b c"), kv("b", 99))); !slices.Equal(got, []int{1, 99, 3, 4}) {
		t.Errorf("of two of a key, what is left is %v", got)
	}
	// Nothing is asked of what is laid: a key that may not be is laid, too.
	if got := Lay(list("a"), api.KV{}); len(got) != 2 || got[0] != (api.KV{}) {
		t.Errorf("the zero thing is laid as %v", got)
	}
}

// P4.2
func TestLayLeavesNothingOfWhatStoodThere(t *testing.T) {
	old := api.KV{Key: "a", Value: "old", Create: 1, Mod: 2, Version: 2, Lease: 7}
	x := api.KV{Key: "a", Value: "", Create: 9, Mod: 9, Version: 1}
	if got := Lay([]api.KV{old}, x); !slices.Equal(got, []api.KV{x}) {
		t.Errorf("laid is %v", got)
	}
}

// P4.2
func TestTake(t *testing.T) {
	for _, c := range []struct {
		l, k string
		want []int
	}{
		{"", "a", nil},
		{"a", "a", nil},
		{"a b c", "a", []int{2, 3}},
		{"a b c", "b", []int{1, 3}},
		{"a b c", "c", []int{1, 2}},
		{"a b c", "d", []int{1, 2, 3}},
		{"a b c", "", []int{1, 2, 3}},
		{"a b c", "aa", []int{1, 2, 3}},
		{"c a c", "c", []int{2, 3}},
		{"c a c a", "a", []int{1, 3, 4}},
	} {
		l := list(c.l)
		if got := revs(Take(l, c.k)); !slices.Equal(got, c.want) {
			t.Errorf("Take of %q from %q is %v, not %v", c.k, c.l, got, c.want)
		}
		if !slices.Equal(l, list(c.l)) {
			t.Errorf("Take of %q from %q changed it: %v", c.k, c.l, l)
		}
	}
}

// P4.2
func TestFrom(t *testing.T) {
	for _, c := range []struct {
		l, prefix string
		want      []int
	}{
		{"", "", nil},
		{"", "a", nil},
		{"a c ca", "", []int{1, 2, 3}},
		{"a c ca", "c", []int{2, 3}},
		{"a c ca", "ca", []int{3}},
		{"a c ca", "cab", nil},
		{"a c ca", "C", nil},
		{"a c ca", "b", nil},
		{"m/a/1 m/a/2 m/aa/1 m/b/1", "m/a/", []int{1, 2}},
		{"ca b c a cb c", "c", []int{1, 3, 5, 6}},
	} {
		l := list(c.l)
		if got := revs(From(l, c.prefix)); !slices.Equal(got, c.want) {
			t.Errorf("From(%q, %q) is %v, not %v", c.l, c.prefix, got, c.want)
		}
		if !slices.Equal(l, list(c.l)) {
			t.Errorf("From(%q, %q) changed it: %v", c.l, c.prefix, l)
		}
	}
}

// log is events: a key is laid, or, with a - ahead of it, gone; their Revs are 1 and so on.
func log(s string) []api.Event {
	var l []api.Event
	for i, k := range strings.Fields(s) {
		k, gone := strings.CutPrefix(k, "-")
		l = append(l, api.Event{Rev: i + 1, Gone: gone, KV: kv(k, 100+i)})
	}
	return l
}

// P4.3
func TestFold(t *testing.T) {
	for _, c := range []struct {
		l, log string
		rev    int
		want   string
	}{
		{"", "", 0, ""},
		{"a c", "", 9, "a c"},
		{"a c", "b d -a -c", 0, "a c"},
		{"a c", "b d -a -c", -1, "a c"},
		{"a c", "b d -a -c", math.MinInt, "a c"},
		{"a c", "b d -a -c", 1, "a b c"},
		{"a c", "b d -a -c", 2, "a b c d"},
		{"a c", "b d -a -c", 3, "b c d"},
		{"a c", "b d -a -c", 4, "b d"},
		{"a c", "b d -a -c", 5, "b d"},
		{"a c", "b d -a -c", math.MaxInt, "b d"},
		{"a c", "-x -y", 9, "a c"},
		{"", "a -a a", 3, "a"},
		{"", "a -a a", 2, ""},
		{"c a c", "b -c", 2, "b a c"},
	} {
		l, events := list(c.l), log(c.log)
		if got := keys(Fold(l, events, c.rev)); got != c.want {
			t.Errorf("Fold(%q, %q, %d) is %q, not %q", c.l, c.log, c.rev, got, c.want)
		}
		if !slices.Equal(l, list(c.l)) || !slices.Equal(events, log(c.log)) {
			t.Errorf("Fold(%q, %q, %d) changed what was handed in", c.l, c.log, c.rev)
		}
	}
}

// P4.3
func TestFoldLaysTheWholeThing(t *testing.T) {
	x := api.KV{Key: "b", Value: "new", Create: 3, Mod: 8, Version: 4, Lease: 5}
	got := Fold(list("a b c"), []api.Event{{Rev: 8, KV: x}}, 8)
	if want := []api.KV{kv("a", 1), x, kv("c", 3)}; !slices.Equal(got, want) {
		t.Errorf("it is %v, not %v", got, want)
	}
}

// P4.3
func TestFoldPassesOverWhatIsAboveWhereverItStands(t *testing.T) {
	events := log("b c d -b e")
	events[0].Rev, events[1].Rev, events[2].Rev, events[3].Rev, events[4].Rev = 2, 9, 1, 9, 2
	if got := keys(Fold(nil, events, 2)); got != "b d e" {
		t.Errorf("it is %q", got)
	}
	if got := keys(Fold(nil, events, 9)); got != "c d e" {
		t.Errorf("it is %q", got)
	}
}

// P4.4
func TestWhatIsLaidIsFoundAndAllElseStays(t *testing.T) {
	random := rand.New(rand.NewSource(4))
	names := strings.Fields("a b c d e f ab abc abd B !")
	kept := map[string]api.KV{}
	var l []api.KV
	for i := range 3000 {
		x := kv(names[random.Intn(len(names))], i+1)
		var next []api.KV
		if random.Intn(3) == 0 {
			next = Take(l, x.Key)
			delete(kept, x.Key)
		} else {
			next = Lay(l, x)
			kept[x.Key] = x
			if got, is := Find(next, x.Key); got != x || !is {
				t.Fatalf("%v was laid, and found as %v, %v", x, got, is)
			}
		}
		l = next
		if !May(l) {
			t.Fatalf("%v may not be", l)
		}
		got := map[string]api.KV{}
		for _, y := range l {
			got[y.Key] = y
		}
		if !maps.Equal(got, kept) {
			t.Fatalf("it is %v, not %v", got, kept)
		}
		if prefix := x.Key[:1]; !May(From(l, prefix)) {
			t.Fatalf("those of %v under %q may not be", l, prefix)
		}
	}
}

// P4.4
func TestFoldOfAListThatMayBeIsOne(t *testing.T) {
	random := rand.New(rand.NewSource(44))
	names := strings.Fields("a b c d e f g")
	for range 300 {
		l := list(strings.Join(names[:random.Intn(len(names))], " "))
		var events []api.Event
		for rev := range 20 {
			x := kv(names[random.Intn(len(names))], rev+1)
			events = append(events, api.Event{Rev: rev + 1, Gone: random.Intn(2) == 0, KV: x})
		}
		step := l
		for rev := range 20 {
			if e := events[rev]; e.Gone {
				step = Take(step, e.KV.Key)
			} else {
				step = Lay(step, e.KV)
			}
			got := Fold(l, events, rev+1)
			if !slices.Equal(got, step) || !May(got) {
				t.Fatalf("Fold(%v, %v, %d) is %v, not %v", l, events, rev+1, got, step)
			}
		}
	}
}

// R5: what is handed in has room behind it that is somebody else's, and what is answered may be changed by who has it.
func TestNothingIsShared(t *testing.T) {
	events := log("aa -b d")
	calls := map[string]func([]api.KV) []api.KV{
		"Lay of a new one":    func(l []api.KV) []api.KV { return Lay(l, kv("aa", 9)) },
		"Lay of the last one": func(l []api.KV) []api.KV { return Lay(l, kv("z", 9)) },
		"Lay of an old one":   func(l []api.KV) []api.KV { return Lay(l, kv("b", 9)) },
		"Take of one":         func(l []api.KV) []api.KV { return Take(l, "a") },
		"Take of none":        func(l []api.KV) []api.KV { return Take(l, "x") },
		"From of all":         func(l []api.KV) []api.KV { return From(l, "") },
		"From of one":         func(l []api.KV) []api.KV { return From(l, "a") },
		"Fold of nothing":     func(l []api.KV) []api.KV { return Fold(l, nil, 9) },
		"Fold of events":      func(l []api.KV) []api.KV { return Fold(l, events, 9) },
		"Fold up to nothing":  func(l []api.KV) []api.KV { return Fold(l, events, 0) },
	}
	for name, call := range calls {
		whole := list("a b c x y")
		got := call(whole[:3])
		if !slices.Equal(whole, list("a b c x y")) {
			t.Errorf("%s: what was handed in is now %v", name, whole)
		}
		if again := call(whole[:3:3]); !reflect.DeepEqual(got, again) {
			t.Errorf("%s: with no room behind it is %v, not %v", name, again, got)
		}
		for i := range got {
			got[i] = api.KV{}
		}
		if !slices.Equal(whole, list("a b c x y")) {
			t.Errorf("%s: what was answered is shared with what was handed in", name)
		}
	}
}
