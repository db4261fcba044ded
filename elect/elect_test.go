package elect

import (
	"fmt"
	"math"
	"math/rand"
	"reflect"
	"slices"
	"strings"
	"testing"

	"baton/api"
	"baton/hist"
	"baton/mvcc"
	"baton/watch"
)

// of is a list of things, each written as its Key, its Value behind a "=" and its Create behind a ":".
func of(t *testing.T, text string) []api.KV {
	t.Helper()
	var l []api.KV
	for _, word := range strings.Fields(text) {
		what, create, is := strings.Cut(word, ":")
		k, value, _ := strings.Cut(what, "=")
		x := api.KV{Key: k, Value: value}
		if _, e := fmt.Sscan(create, &x.Create); e != nil || !is {
			t.Fatalf("%q is no thing", word)
		}
		l = append(l, x)
	}
	return l
}

// by is events, each written as its Rev, a "+", or a "-" of what is gone, and its thing.
func by(t *testing.T, text string) []api.Event {
	t.Helper()
	var events []api.Event
	for _, word := range strings.Fields(text) {
		at := 1 + strings.IndexAny(word[1:], "+-")
		e := api.Event{Gone: word[at] == '-', KV: of(t, word[at+1:])[0]}
		if _, err := fmt.Sscan(word[:at], &e.Rev); err != nil {
			t.Fatalf("%q is no event", word)
		}
		events = append(events, e)
	}
	return events
}

// tell writes l so.
func tell(l []api.KV) string {
	var words []string
	for _, x := range l {
		value := ""
		if x.Value != "" {
			value = "=" + x.Value
		}
		words = append(words, fmt.Sprintf("%s%s:%d", x.Key, value, x.Create))
	}
	return strings.Join(words, " ")
}

// P17.1
func TestHead(t *testing.T) {
	for _, c := range [][2]string{
		{"a:1", "a:1"},
		{"a:5 b:3 c:9", "b:3"},
		{"c:1 b:2 a:3", "c:1"},
		{"a:3 b:2 c:1", "c:1"},
		// By Key, where Create is the same; as they stand, where both are.
		{"c:7 a:7 b:7", "a:7"}, {"c:7 a=2:7 b:7 a=1:7", "a=2:7"}, {"a:7 z:6 y:6", "y:6"},
		// Numbers, not their texts, and those that no store has, too.
		{"a:10 b:9 c:100", "b:9"}, {"a:1 b:-1 c:0", "b:-1"}, {"a:9223372036854775807 b:-9223372036854775808", "b:-9223372036854775808"},
		// Whatever their keys are named.
		{"e/a/0000000001:4 m/a/0000000001:3 zz:8", "m/a/0000000001:3"},
	} {
		l := of(t, c[0])
		x, is := Head(l)
		if got := tell([]api.KV{x}); got != c[1] || !is {
			t.Errorf("the head of %q is %q, %v", c[0], got, is)
		}
		if tell(l) != c[0] {
			t.Errorf("%q is now %q", c[0], tell(l))
		}
	}
}

// P17.1: the whole thing, and be that zero.
func TestHeadIsAWholeThing(t *testing.T) {
	x, y := api.KV{Key: "b", Value: "v", Create: 4, Mod: 9, Version: 3, Lease: 7}, api.KV{Key: "a", Create: 5}
	if got, is := Head([]api.KV{y, x}); got != x || !is {
		t.Errorf("it is %v, %v", got, is)
	}
	if got, is := Head([]api.KV{{}}); got != (api.KV{}) || !is {
		t.Errorf("of the zero one it is %v, %v", got, is)
	}
	for _, l := range [][]api.KV{nil, {}} {
		if got, is := Head(l); got != (api.KV{}) || is {
			t.Errorf("of none it is %v, %v", got, is)
		}
	}
}

// P17.2
func TestFollow(t *testing.T) {
	for _, c := range []struct{ l, events, left, seen string }{
		// The chapter's example.
		{"", "1+a:1 2+b:2 3-a:1", "b:2", "a:1 b:2"},
		{"", "", "", ""},
		{"a:1 b:2", "", "a:1 b:2", ""},
		// Who comes behind the head, and goes from there, is not seen.
		{"a:1", "2+b:2 3+c:3", "a:1 b:2 c:3", ""},
		{"a:1 b:2 c:3", "4-b:2 5-c:3", "a:1", ""},
		{"a:1 b:2", "3+b=v:2", "a:1 b=v:2", ""},
		// Each that comes to be first is, but not the one that was ahead of all events.
		{"a:1 b:2 c:3", "4-a:1 5-b:2", "c:3", "b:2 c:3"},
		{"a:1 b:2 c:3", "4-a:1 5-b:2 6-c:3", "", "b:2 c:3"},
		{"c:3 b:2 a:1", "4-a:1", "c:3 b:2", "b:2"},
		{"", "1+a:1", "a:1", "a:1"},
		{"", "1-a:1", "", ""},
		{"a:1", "2-b:2 3-a:1 4-a:1", "", ""},
		// What it says makes it another thing; the same once more does not.
		{"a:1 b:2", "3+a=v:1", "a=v:1 b:2", "a=v:1"},
		{"a:1", "3+a=v:1 4+a=v:1 5+a=w:1 6+a:1", "a:1", "a=v:1 a=w:1 a:1"},
		{"a:1", "2+a:1", "a:1", ""},
		// Who comes with a lesser Create is first; and where that is the same, by its Key.
		{"b:5", "6+a:4 7-a:4", "b:5", "a:4 b:5"},
		{"b:5", "6+c:5 7+a:5", "a:5 b:5 c:5", "a:5"},
		// A revision's events are together: what is in their midst is not seen.
		{"a:1", "2-a:1 2+b:2", "b:2", "b:2"},
		{"", "1+a:1 1+b:1 1-a:1", "b:1", "b:1"},
		{"a:1", "2-a:1 2+a:1", "a:1", ""},
		{"a:1", "2-a:1 3+a:1", "a:1", "a:1"},
		{"", "2+a:2 2-a:2", "", ""},
		{"a:1 b:2 c:3", "4-a:1 4-b:2 5-c:3", "", "c:3"},
		{"a:1 b:2 c:3", "4-a:1 5-b:2 5-c:3", "", "b:2"},
		{"a:1 b:2 c:3", "4-a:1 4-b:2 4-c:3 5+d:5 5+e:5", "d:5 e:5", "d:5"},
		{"a:1", "2+a=v:1 2+a:1", "a:1", ""},
		// Neighbours alone are: the same Rev comes again as another one. In what order they come is not asked.
		{"a:1", "2-a:1 3+b:2 2+a:1", "a:1 b:2", "b:2 a:1"},
		{"a:1 b:2", "2-a:1 1+c:3 2+a:1", "a:1 b:2 c:3", "b:2 a:1"},
		{"", "3+a:1 2+b:0 1-b:0", "a:1", "a:1 b:0 a:1"},
		{"", "0+a:1 0+b:0 -1-b:0", "a:1", "b:0 a:1"},
		// No head in between: the same one comes to be first again.
		{"a:1", "2-a:1 3-a:1 4+a:1", "a:1", "a:1"},
		{"a:1", "2-a:1 3+b:3 4-b:3 5+a:1", "a:1", "b:3 a:1"},
		// A list in which a key is twice: the first one is changed.
		{"a:1 a=v:2", "3-a:1", "a=v:2", "a=v:2"},
		{"a:1 a=v:2", "3+a=w:9", "a=w:9 a=v:2", "a=v:2"},
	} {
		l, events := of(t, c.l), by(t, c.events)
		left, seen := Follow(l, events)
		if tell(left) != c.left || tell(seen) != c.seen {
			t.Errorf("%q, by %q, is %q, and %q was seen", c.l, c.events, tell(left), tell(seen))
		}
		if tell(l) != c.l || !slices.Equal(events, by(t, c.events)) {
			t.Errorf("of %q and %q there is now %q and %v", c.l, c.events, tell(l), events)
		}
	}
}

// P17.2: heads are held against one another by all that they have.
func TestFollowAsksOfWholeThings(t *testing.T) {
	x := api.KV{Key: "a", Value: "v", Create: 4, Mod: 9, Version: 3, Lease: 7}
	for i, y := range []api.KV{
		{Key: "a", Value: "w", Create: 4, Mod: 9, Version: 3, Lease: 7}, {Key: "a", Value: "v", Create: 5, Mod: 9, Version: 3, Lease: 7},
		{Key: "a", Value: "v", Create: 4, Mod: 10, Version: 3, Lease: 7}, {Key: "a", Value: "v", Create: 4, Mod: 9, Version: 4, Lease: 7},
		{Key: "a", Value: "v", Create: 4, Mod: 9, Version: 3, Lease: 8},
	} {
		if l, seen := Follow([]api.KV{x}, []api.Event{{Rev: 10, KV: y}}); !slices.Equal(l, []api.KV{y}) || !slices.Equal(seen, []api.KV{y}) {
			t.Errorf("case %d: %v, and %v was seen", i, l, seen)
		}
	}
	if _, seen := Follow([]api.KV{x}, []api.Event{{Rev: 10, KV: x}}); len(seen) != 0 {
		t.Errorf("%v was seen", seen)
	}
	// That there was none is unlike any thing, also the zero one.
	if l, seen := Follow(nil, []api.Event{{}}); !slices.Equal(l, []api.KV{{}}) || !slices.Equal(seen, []api.KV{{}}) {
		t.Errorf("of none, by the zero one: %v, and %v was seen", l, seen)
	}
}

// P17.3
func TestTerms(t *testing.T) {
	for _, c := range []struct {
		l    string
		want []int
	}{
		{"", nil},
		{"a:1", []int{1}}, {"a:0", []int{0}}, {"a:-1 b:-1", []int{-1}},
		{"a:1 b:2 c:3", []int{1, 2, 3}}, {"c:3 b:2 a:1", []int{3, 2, 1}},
		{"a:1 a=v:1 b:2", []int{1, 2}}, {"a:1 b:1 c:1", []int{1}}, {"a:1 b:2 b=v:2 b:2 c:3 c:3", []int{1, 2, 3}},
		// Neighbours alone.
		{"a:1 b:2 a:1", []int{1, 2, 1}}, {"a:1 a:1 b:2 a:1 a:1 b:2", []int{1, 2, 1, 2}}, {"a:0 b:1 b:1 c:0", []int{0, 1, 0}},
	} {
		l := of(t, c.l)
		if got := Terms(l); !slices.Equal(got, c.want) {
			t.Errorf("the terms of %q are %v", c.l, got)
		}
		if tell(l) != c.l {
			t.Errorf("%q is now %q", c.l, tell(l))
		}
	}
}

// P17.4
func TestReign(t *testing.T) {
	for _, c := range []struct {
		l, name, want string
	}{
		{"e/x/1=p:4", "x", "4 p true"},
		{"e/x/1=p:4 e/x/2=q:3 e/y/3=r:2", "x", "3 q true"},
		{"e/y/3=r:2 e/x/2=q:3 e/x/1=p:4", "y", "2 r true"},
		{"e/x/2=q:3 e/x/1=p:3", "x", "3 p true"},
		{"e/x/1=p:3 e/x/1=q:3", "x", "3 p true"},
		{"e/x/1:3", "x", "3  true"},
		// By how it begins, whatever is behind it, and if that is nothing.
		{"e/x/=p:4 e/x/open=q:5", "x", "4 p true"}, {"e/x/a/b=p:4", "x", "4 p true"},
		{"e/x/1=p:-4 e/x/2=q:0", "x", "-4 p true"}, {"e/x/1:0", "x", "0  true"},
		// Neither other kinds, nor other names.
		{"m/x/1=p:1 l/x/1=p:1 s/x/1=p:1 p/x/1=p:1 q/x/1=p:1 e/x1/1=p:1 e/x=p:1 ee/x/1=p:1 e/x/1=q:9", "x", "9 q true"},
		{"m/x/1=p:1 l/x/1=p:1 s/x/1=p:1 p/x/1=p:1 q/x/1=p:1 e/x1/1=p:1 e/x=p:1 ee/x/1=p:1", "x", "0  false"},
		{"e/x/1=p:4", "y", "0  false"}, {"e/xx/1=p:4", "x", "0  false"}, {"e/x/1=p:4", "xx", "0  false"},
		{"", "x", "0  false"},
		{"e/abcdefghij09/1=p:4", "abcdefghij09", "4 p true"},
		// Names that are none, be there such keys or not.
		{"e//1=p:4", "", "0  false"}, {"e/X/1=p:4", "X", "0  false"}, {"e/x/1=p:4", "x/", "0  false"}, {"e/x//1=p:4", "x/", "0  false"}, {"e/é/1=p:4", "é", "0  false"},
		{"e/abcdefghijklm/1=p:4", "abcdefghijklm", "0  false"}, {"", "", "0  false"},
	} {
		l := of(t, c.l)
		term, value, is := Reign(l, c.name)
		if got := fmt.Sprint(term, " ", value, " ", is); got != c.want {
			t.Errorf("of %q and %q it is %q", c.l, c.name, got)
		}
		if tell(l) != c.l {
			t.Errorf("%q is now %q", c.l, tell(l))
		}
	}
}

// store is one that is made by lists of laying and taking, sometimes several at once, and sometimes shrunk.
func store(t *testing.T, random *rand.Rand) api.Store {
	t.Helper()
	s := mvcc.New()
	for range 5 + random.Intn(40) {
		var l []api.Mut
		for _, at := range random.Perm(6)[:1+random.Intn(3)] {
			m := api.Mut{Key: fmt.Sprint("e/", []string{"x", "y"}[at%2], "/", at), Gone: random.Intn(2) == 0}
			if !m.Gone {
				m.Value = fmt.Sprint(random.Intn(3))
			}
			l = append(l, m)
		}
		if len(s.Log) > api.MaxLog-3 || random.Intn(30) == 0 {
			s, _ = mvcc.Shrink(s, s.Rev-random.Intn(1+s.Rev-s.Low))
		}
		next, _, e := mvcc.Apply(s, l)
		if e != api.OK {
			t.Fatalf("Apply of %v is %d", l, e)
		}
		s = next
	}
	if !mvcc.May(s) {
		t.Fatalf("%v may not be", s)
	}
	return s
}

// since is the events of prefix in s from rev on, which are there.
func since(t *testing.T, s api.Store, prefix string, rev int) []api.Event {
	t.Helper()
	events, e := watch.All(s, prefix, rev, api.MaxKeys)
	if e != api.OK {
		t.Fatalf("from %d on it is %d", rev, e)
	}
	return events
}

// at is what there was of prefix at rev, which is kept.
func at(t *testing.T, s api.Store, prefix string, rev int) []api.KV {
	t.Helper()
	// Revision 0 would be the newest one.
	l, e := s.Base, api.OK
	if rev > s.Low {
		l, e = mvcc.At(s, rev)
	}
	if e != api.OK {
		t.Fatalf("at %d it is %d", rev, e)
	}
	return hist.From(l, prefix)
}

// least is the least Create of l; whether there is none.
func least(l []api.KV) (int, bool) {
	n, none := 0, true
	for _, x := range l {
		if none || x.Create < n {
			n, none = x.Create, false
		}
	}
	return n, none
}

// P17.5: by the events of a store that may be, from any revision on.
func TestTermsRise(t *testing.T) {
	terms, heads := 0, 0
	for seed := range 300 {
		random := rand.New(rand.NewSource(int64(seed)))
		s := store(t, random)
		for _, prefix := range []string{"", "e/x/", "e/y/", "e/z/"} {
			for rev := s.Low; rev <= s.Rev; rev++ {
				l, seen := Follow(at(t, s, prefix, rev), since(t, s, prefix, rev+1))
				if want := at(t, s, prefix, s.Rev); !slices.Equal(l, want) {
					t.Fatalf("of seed %d, from %d on, %v is left, not %v", seed, rev, l, want)
				}
				of := Terms(seen)
				for i := 1; i < len(of); i++ {
					if of[i] <= of[i-1] {
						t.Fatalf("of seed %d, from %d on, terms are %v", seed, rev, of)
					}
				}
				if was, none := least(at(t, s, prefix, rev)); !none && len(of) > 0 && of[0] < was {
					t.Fatalf("of seed %d, from %d on, terms are %v behind %d", seed, rev, of, was)
				}
				terms, heads = terms+len(of), heads+len(seen)
			}
		}
	}
	if terms < 10000 || heads < terms+1000 {
		t.Errorf("only %d terms of %d heads were seen", terms, heads)
	}
}

// P17.5: each head that is seen was the one of the least Create when it was; and none that was is missed.
func TestHeadsAsTheyWere(t *testing.T) {
	for seed := range 300 {
		random := rand.New(rand.NewSource(int64(seed)))
		s := store(t, random)
		for _, prefix := range []string{"", "e/x/"} {
			var want []api.KV
			for rev := s.Low + 1; rev <= s.Rev; rev++ {
				was, ruled := Head(at(t, s, prefix, rev-1))
				l := at(t, s, prefix, rev)
				x, is := Head(l)
				if n, none := least(l); is == none || x.Create != n {
					t.Fatalf("of seed %d the head of %v is %v", seed, l, x)
				}
				if is && (!ruled || x != was) {
					want = append(want, x)
				}
			}
			if _, seen := Follow(at(t, s, prefix, s.Low), since(t, s, prefix, s.Low+1)); !slices.Equal(seen, want) {
				t.Fatalf("of seed %d %v was seen, not %v", seed, seen, want)
			}
		}
	}
}

// P17.5: by however many events at a time, in whole revisions.
func TestFollowByAndBy(t *testing.T) {
	for seed := range 200 {
		random := rand.New(rand.NewSource(int64(seed)))
		s := store(t, random)
		for rev := s.Low; rev <= s.Rev; rev++ {
			left, seen := Follow(at(t, s, "e/", rev), since(t, s, "e/", rev+1))
			for most := 3; most < 9; most++ {
				l, heads := at(t, s, "e/", rev), []api.KV(nil)
				for next := rev + 1; next <= s.Rev; {
					events, from, e := watch.Since(s, "e/", next, most)
					if e != api.OK {
						t.Fatalf("from %d on it is %d", next, e)
					}
					var more []api.KV
					l, more = Follow(l, events)
					heads, next = append(heads, more...), from
				}
				if !slices.Equal(l, left) || !slices.Equal(heads, seen) {
					t.Fatalf("of seed %d, by %d at a time from %d on, %v was seen, not %v", seed, most, rev, heads, seen)
				}
			}
		}
	}
}

// P17.4 and P17.5: who reigns is the last one that was seen.
func TestWhoReignsWasSeen(t *testing.T) {
	for seed := range 200 {
		s := store(t, rand.New(rand.NewSource(int64(seed))))
		_, seen := Follow(at(t, s, "e/x/", s.Low), since(t, s, "e/x/", s.Low+1))
		term, value, is := Reign(mvcc.Now(s), "x")
		if len(seen) == 0 {
			continue
		}
		last := seen[len(seen)-1]
		if is && (term != last.Create || value != last.Value) || is == (len(at(t, s, "e/x/", s.Rev)) == 0) {
			t.Fatalf("of seed %d it is %d, %q, %v behind %v", seed, term, value, is, last)
		}
	}
}

// R5: what is told is in other hands than what was handed in.
func TestNothingIsShared(t *testing.T) {
	for _, text := range []string{"", "2+b:2", "2-a:1 3+c:3"} {
		l, events := of(t, "a:1 d:1"), by(t, text)
		left, seen := Follow(l, events)
		x, _ := Head(l)
		clear(left)
		clear(seen)
		if tell(l) != "a:1 d:1" || !reflect.DeepEqual(events, by(t, text)) || x.Key != "a" {
			t.Errorf("by %q there is now %v and %v", text, l, events)
		}
	}
}

// R1: lists of anything are no reason to panic.
func TestNothingPanics(t *testing.T) {
	x := api.KV{Key: "e/x/1", Create: math.MinInt, Mod: math.MaxInt}
	for _, l := range [][]api.KV{nil, {}, {{}}, {{}, {}}, {x, {}, x}, make([]api.KV, 99)} {
		for _, rev := range []int{math.MinInt, -1, 0, 1, math.MaxInt} {
			Follow(l, []api.Event{{Rev: rev}, {Rev: rev, Gone: true}, {Gone: true, KV: x}, {Rev: rev, KV: x}})
			Follow(l, make([]api.Event, 99))
		}
		Follow(l, nil)
		Head(l)
		Terms(l)
		for _, name := range []string{"", "x", "X", "\xff", strings.Repeat("x", 999)} {
			Reign(l, name)
		}
	}
}
