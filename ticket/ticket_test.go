package ticket

import (
	"fmt"
	"math"
	"math/rand"
	"reflect"
	"slices"
	"sort"
	"strings"
	"testing"

	"baton/api"
)

// of is a list of things, each written as its Key, its Value behind a "/" and its Create behind a ":".
func of(t *testing.T, text string) []api.KV {
	t.Helper()
	var l []api.KV
	for _, word := range strings.Fields(text) {
		what, create, is := strings.Cut(word, ":")
		k, value, _ := strings.Cut(what, "/")
		x := api.KV{Key: k, Value: value}
		if _, e := fmt.Sscan(create, &x.Create); e != nil || !is {
			t.Fatalf("%q is no thing", word)
		}
		l = append(l, x)
	}
	return l
}

// tell writes l so.
func tell(l []api.KV) string {
	var words []string
	for _, x := range l {
		words = append(words, fmt.Sprintf("%s/%s:%d", x.Key, x.Value, x.Create))
	}
	return strings.Join(words, " ")
}

// P15.1
func TestOrder(t *testing.T) {
	for _, c := range [][2]string{
		{"", ""},
		{"a/:1", "a/:1"},
		{"a/:5 b/:3 c/:9", "b/:3 a/:5 c/:9"},
		{"c/:1 b/:2 a/:3", "c/:1 b/:2 a/:3"},
		{"a/:3 b/:2 c/:1", "c/:1 b/:2 a/:3"},
		// By Key, where Create is the same: byte by byte, shorter ones first.
		{"c/:7 a/:7 b/:7", "a/:7 b/:7 c/:7"},
		{"ab/:7 b/:7 a/:7 B/:7 aa/:7 é/:7 z/:7 /:7", "/:7 B/:7 a/:7 aa/:7 ab/:7 b/:7 z/:7 é/:7"},
		{"b/:2 a/:2 d/:1 c/:1 e/:0", "e/:0 c/:1 d/:1 a/:2 b/:2"},
		// As they stand, where both are: nothing else is asked.
		{"a/2:7 a/1:7 a/3:7", "a/2:7 a/1:7 a/3:7"},
		{"x/2:7 x/1:7 x/0:4", "x/0:4 x/2:7 x/1:7"},
		{"a/3:7 b/9:7 a/1:7 b/0:7 a/2:7", "a/3:7 a/1:7 a/2:7 b/9:7 b/0:7"},
		// Numbers, not their texts, and those that no store has, too.
		{"a/:10 b/:9 c/:100 d/:-1 e/:0 f/:-10", "f/:-10 d/:-1 e/:0 b/:9 a/:10 c/:100"},
		{"a/:9223372036854775807 b/:-9223372036854775808 c/:0", "b/:-9223372036854775808 c/:0 a/:9223372036854775807"},
	} {
		l := of(t, c[0])
		if got := tell(Order(l)); got != c[1] {
			t.Errorf("the order of %q is %q", c[0], got)
		}
		if tell(l) != c[0] {
			t.Errorf("%q is now %q", c[0], tell(l))
		}
	}
}

// P15.1: by Create and Key alone, and each thing as it was.
func TestOrderTellsWholeThings(t *testing.T) {
	l := []api.KV{
		{Key: "b", Value: "1", Create: 4, Mod: 1, Version: 1, Lease: 1},
		{Key: "b", Value: "0", Create: 4, Mod: 0, Version: 0, Lease: 0},
		{Key: "a", Value: "9", Create: 4, Mod: 9, Version: 9, Lease: 9},
		{Key: "c", Value: "9", Create: 2, Mod: 8, Version: 7, Lease: 6},
	}
	if got := Order(l); !reflect.DeepEqual(got, []api.KV{l[3], l[2], l[0], l[1]}) {
		t.Errorf("it is %v", got)
	}
}

// P15.1
func TestPlaceAndAhead(t *testing.T) {
	l := "a/w:5 b/r:3 d/r:9 c/r:9 e/w:1"
	for _, c := range []struct {
		l, k  string
		place int
		ahead string
	}{
		{l, "e", 0, ""}, {l, "b", 1, "e/w:1"}, {l, "a", 2, "e/w:1 b/r:3"}, {l, "c", 3, "e/w:1 b/r:3 a/w:5"}, {l, "d", 4, "e/w:1 b/r:3 a/w:5 c/r:9"},
		// There is none such.
		{l, "z", -1, ""}, {l, "", -1, ""}, {l, "E", -1, ""}, {l, "ee", -1, ""}, {l, "w", -1, ""}, {"", "a", -1, ""}, {"", "", -1, ""},
		{"aa/:1", "a", -1, ""}, {"a/:1", "a", 0, ""}, {"/:2 a/:1", "", 1, "a/:1"},
		// The first one of its order, not of l.
		{"x/2:7 x/1:7 x/0:4", "x", 0, ""}, {"x/2:7 y/:5 x/0:4", "x", 0, ""}, {"x/2:7 y/:5 x/0:6", "x", 1, "y/:5"}, {"x/2:7 y/:5 x/0:6", "y", 0, ""},
		{"x/:9 y/:8 z/:7 x/:7 y/:7", "x", 0, ""}, {"x/:9 y/:8 z/:7 x/:7 y/:7", "y", 1, "x/:7"}, {"x/:9 y/:8 z/:7 x/:7 y/:7", "z", 2, "x/:7 y/:7"},
	} {
		things := of(t, c.l)
		if place, ahead := Place(things, c.k), Ahead(things, c.k); place != c.place || tell(ahead) != c.ahead {
			t.Errorf("of %q in %q it is %d, %q", c.k, c.l, place, tell(ahead))
		}
		if tell(things) != c.l {
			t.Errorf("%q is now %q", c.l, tell(things))
		}
	}
}

// P15.2, P15.3
func TestReadyAndHolders(t *testing.T) {
	l := "a/w:5 b/r:3 d/r:9 c/r:9 e/w:1"
	late := "a/w:5 b/r:3 d/r:9 c/r:9"
	two := "x/2:7 x/1:7 x/0:4"
	for _, c := range []struct {
		kind, n int
		l, want string
	}{
		{api.Mutex, 0, l, "e"}, {api.Mutex, 9, l, "e"}, {api.Mutex, -1, l, "e"}, {api.Mutex, 0, late, "b"}, {api.Mutex, 0, "", ""}, {api.Mutex, 0, "a/:9", "a"},
		{api.Writer, 0, l, "e"}, {api.Writer, 9, late, "b"}, {api.Writer, 0, "", ""},
		{api.Leader, 0, l, "e"}, {api.Leader, 5, late, "b"}, {api.Leader, 0, "", ""},
		// Readers wait for writers ahead of them alone.
		{api.Reader, 0, l, "e"}, {api.Reader, 0, late, "b a"}, {api.Reader, 9, late, "b a"}, {api.Reader, 0, "", ""},
		{api.Reader, 0, "c/r:3 a/r:1 b/r:2", "a b c"}, {api.Reader, -9, "c/r:3 a/r:1 b/r:2 d/w:9", "a b c d"}, {api.Reader, 0, "c/r:3 a/r:1 b/w:2", "a b"}, {api.Reader, 0, "c/r:3 a/w:1 b/r:2", "a"},
		// By Key, where Create is the same.
		{api.Reader, 0, "c/r:3 b/w:3 a/r:3", "a b"}, {api.Mutex, 0, "c/:3 b/:3 a/:3", "a"},
		// Only "w" is a writer's.
		{api.Reader, 0, "a/W:1 b/ww:2 c/:3 d/r:4 e/x:5 f/w:6 g/r:7", "a b c d e f"}, {api.Reader, 0, "w/r:1 a/r:2", "w a"},
		{api.Permit, 2, l, "e b"}, {api.Permit, 1, l, "e"}, {api.Permit, 4, l, "e b a c"}, {api.Permit, 5, l, "e b a c d"}, {api.Permit, 6, l, "e b a c d"},
		{api.Permit, 0, l, ""}, {api.Permit, -1, l, ""}, {api.Permit, math.MinInt, l, ""}, {api.Permit, 100, l, "e b a c d"}, {api.Permit, math.MaxInt, l, "e b a c d"}, {api.Permit, 1, "", ""},
		// Of others nobody.
		{0, 9, l, ""}, {-1, 9, l, ""}, {api.Party, 9, l, ""}, {api.Enqueue, 9, l, ""}, {api.Dequeue, 9, l, ""}, {9, 9, l, ""}, {math.MinInt, 9, l, ""}, {math.MaxInt, 9, l, ""},
		// A key is told once, in the place in which it is first.
		{api.Permit, 3, two, "x"}, {api.Permit, 1, two, "x"}, {api.Permit, 0, two, ""}, {api.Mutex, 0, two, "x"}, {api.Reader, 0, two, "x"},
		{api.Permit, 3, "x/:7 y/:5 x/:6 z/:8", "y x"}, {api.Permit, 4, "x/:7 y/:5 x/:6 z/:8", "y x z"}, {api.Reader, 0, "x/r:7 y/w:5 x/r:4 z/r:8", "x y"}, {api.Mutex, 0, "x/:7 y/:5 x/:4", "x"},
	} {
		things := of(t, c.l)
		holders := Holders(c.kind, c.n, things)
		if got := strings.Join(holders, " "); got != c.want {
			t.Errorf("of kind %d and %d the holders of %q are %q", c.kind, c.n, c.l, got)
		}
		for _, k := range strings.Split("a b c d e f g w x y z", " ") {
			if got := Ready(c.kind, c.n, things, k); got != slices.Contains(strings.Fields(c.want), k) {
				t.Errorf("of kind %d and %d that %q of %q is ready is %v", c.kind, c.n, k, c.l, got)
			}
		}
		// Who has no ticket never is.
		for _, k := range []string{"", "A", "aa", "zz", "r"} {
			if Ready(c.kind, c.n, things, k) {
				t.Errorf("of kind %d and %d %q of %q is ready", c.kind, c.n, k, c.l)
			}
		}
		if tell(things) != c.l {
			t.Errorf("%q is now %q", c.l, tell(things))
		}
	}
}

// P15.2: an empty Key is one, too.
func TestAnEmptyKeyIsAKey(t *testing.T) {
	l := []api.KV{{Create: 2}, {Key: "a", Create: 1}}
	if Ready(api.Mutex, 0, l, "") || !Ready(api.Permit, 2, l, "") || !slices.Equal(Holders(api.Permit, 2, l), []string{"a", ""}) {
		t.Errorf("it is %q", Holders(api.Permit, 2, l))
	}
}

// P15.3
func TestSign(t *testing.T) {
	for kind := -20; kind < 300; kind++ {
		want := map[int]string{2: "r", 3: "w"}[kind]
		if got := Sign(kind); got != want {
			t.Errorf("of kind %d it is %q", kind, got)
		}
	}
	for _, kind := range []int{math.MinInt, math.MaxInt, 1<<32 + 2, 1<<32 + 3} {
		if got := Sign(kind); got != "" {
			t.Errorf("of kind %d it is %q", kind, got)
		}
	}
}

// The chapter's example.
func TestThreeTickets(t *testing.T) {
	l := of(t, "a/:5 b/:3 c/:9")
	if mutex, permits := Holders(api.Mutex, 0, l), Holders(api.Permit, 2, l); !slices.Equal(mutex, []string{"b"}) || !slices.Equal(permits, []string{"b", "a"}) {
		t.Errorf("it is %q, %q", mutex, permits)
	}
}

// some is a list of less than most things in any order: of so few keys and Creates that some are the same.
func some(random *rand.Rand, most, keys, creates int) []api.KV {
	var l []api.KV
	for range random.Intn(most) {
		l = append(l, api.KV{
			Key:    string(rune('a' + random.Intn(keys))),
			Value:  []string{"r", "r", "w", ""}[random.Intn(4)],
			Create: random.Intn(creates),
			Lease:  random.Intn(99),
		})
	}
	return l
}

// ordered is l in the order that the chapter's words ask for.
func ordered(l []api.KV) []api.KV {
	l = slices.Clone(l)
	sort.SliceStable(l, func(i, j int) bool {
		return l[i].Create < l[j].Create || l[i].Create == l[j].Create && l[i].Key < l[j].Key
	})
	return l
}

// P15.1: things stand as they stood where both are the same, in lists of any length.
func TestOrderOfManyThatAreTheSame(t *testing.T) {
	random := rand.New(rand.NewSource(5))
	for range 500 {
		l := some(random, 200, 3, 3)
		if got := Order(l); !slices.Equal(got, ordered(l)) {
			t.Fatalf("the order of %q is %q", tell(l), tell(got))
		}
	}
}

// P15.1 to P15.3, of any lists, as the words of the chapter say it.
func TestAsTheWordsSay(t *testing.T) {
	random := rand.New(rand.NewSource(1))
	for range 3000 {
		l := some(random, 9, 1+random.Intn(6), 1+random.Intn(6))
		order := ordered(l)
		if got := Order(l); !slices.Equal(got, order) {
			t.Fatalf("the order of %q is %q", tell(l), tell(got))
		}
		for kind := range 9 {
			n := random.Intn(6) - 1
			var holders []string
			for _, x := range order {
				place := slices.IndexFunc(order, func(y api.KV) bool { return y.Key == x.Key })
				writers := slices.ContainsFunc(order[:place], func(y api.KV) bool { return y.Value == "w" })
				ready := map[int]bool{1: place == 0, 2: !writers, 3: place == 0, 4: place < n, 5: place == 0}[kind]
				if Place(l, x.Key) != place || !slices.Equal(Ahead(l, x.Key), order[:place]) || Ready(kind, n, l, x.Key) != ready {
					t.Fatalf("of kind %d and %d of %q of %q it is %d, %q, %v", kind, n, x.Key, tell(l), Place(l, x.Key), tell(Ahead(l, x.Key)), !ready)
				}
				if ready && !slices.Contains(holders, x.Key) {
					holders = append(holders, x.Key)
				}
			}
			if got := Holders(kind, n, l); !slices.Equal(got, holders) {
				t.Fatalf("of kind %d and %d the holders of %q are %q", kind, n, tell(l), got)
			}
		}
	}
}

// P15.4
func TestNoMoreAreReadyThanMayBe(t *testing.T) {
	random := rand.New(rand.NewSource(2))
	most := 0
	for range 5000 {
		l := some(random, 9, 6, 6)
		for _, kind := range []int{api.Mutex, api.Writer, api.Leader} {
			if got := Holders(kind, random.Intn(9), l); len(got) > 1 || len(got) == 0 && len(l) > 0 {
				t.Fatalf("of kind %d of %q it is %q", kind, tell(l), got)
			}
		}
		n := random.Intn(6)
		if got := Holders(api.Permit, n, l); len(got) > n {
			t.Fatalf("of %d permits of %q it is %q", n, tell(l), got)
		} else {
			most = max(most, len(got))
		}
	}
	if most < 5 {
		t.Errorf("only %d had permits at once", most)
	}
}

// signed is a list of as many readers' and writers' tickets, none of whose Keys and Creates are the same, in the order
// of their Keys.
func signed(random *rand.Rand, many int) []api.KV {
	creates := random.Perm(20)
	var l []api.KV
	for i := range many {
		l = append(l, api.KV{Key: string(rune('a' + i)), Value: Sign(api.Reader + random.Intn(2)), Create: 1 + creates[i]})
	}
	return l
}

// P15.4
func TestNoReaderIsReadyBesideAWriter(t *testing.T) {
	random := rand.New(rand.NewSource(3))
	readers, writers := 0, 0
	for range 5000 {
		l := signed(random, random.Intn(8))
		var reads, writes int
		for _, x := range l {
			switch {
			case x.Value == Sign(api.Writer) && Ready(api.Writer, 0, l, x.Key):
				writes++
			case x.Value == Sign(api.Reader) && Ready(api.Reader, 0, l, x.Key):
				reads++
			}
		}
		if writes > 1 || writes == 1 && reads > 0 || writes+reads == 0 && len(l) > 0 {
			t.Fatalf("of %q %d write and %d read", tell(l), writes, reads)
		}
		readers, writers = readers+reads, writers+writes
	}
	if readers < 1000 || writers < 1000 {
		t.Errorf("only %d read and %d write", readers, writers)
	}
}

// P15.4
func TestWhoIsReadyStaysSo(t *testing.T) {
	random := rand.New(rand.NewSource(4))
	stayed := 0
	for range 5000 {
		l := signed(random, 1+random.Intn(7))
		kind, n := 1+random.Intn(5), 1+random.Intn(4)
		for _, k := range Holders(kind, n, l) {
			own := l[slices.IndexFunc(l, func(x api.KV) bool { return x.Key == k })]
			// Others go, and some come behind it, their Keys ahead of its or not.
			var left []api.KV
			for _, x := range l {
				if x.Key == k || random.Intn(2) == 0 {
					left = append(left, x)
				}
			}
			for i := range random.Intn(5) {
				left = append(left, api.KV{Key: fmt.Sprint(random.Intn(3), "new", i), Value: []string{"w", "r", ""}[random.Intn(3)], Create: own.Create + 1 + random.Intn(9)})
			}
			random.Shuffle(len(left), func(i, j int) { left[i], left[j] = left[j], left[i] })
			if !Ready(kind, n, left, k) || !slices.Contains(Holders(kind, n, left), k) {
				t.Fatalf("of kind %d and %d %q of %q is ready, of %q not", kind, n, k, tell(l), tell(left))
			}
			stayed++
		}
	}
	if stayed < 5000 {
		t.Errorf("only %d stayed", stayed)
	}
}

// R1: a long list is done in time, whatever it has.
func TestLongLists(t *testing.T) {
	var l []api.KV
	for i := range 50000 {
		l = append(l, api.KV{Key: fmt.Sprint(i * 7919 % 50021), Value: "r", Create: i * 104729 % 50023})
	}
	if got := Holders(api.Reader, 0, l); len(got) != len(l) {
		t.Errorf("only %d of them read", len(got))
	}
	if got := Holders(api.Permit, 1000, l); len(got) != 1000 || Place(l, got[999]) != 999 || len(Ahead(l, got[999])) != 999 || !Ready(api.Permit, 1000, l, got[999]) {
		t.Errorf("only %d of them have permits", len(got))
	}
}

// R5, R6: what is handed in is not changed, what is answered is nobody else's, and the same again, the answer is the same.
func TestNothingIsChanged(t *testing.T) {
	text := "a/w:5 b/r:3 d/r:9 c/r:9 e/w:1"
	l := of(t, text)
	order, ahead, holders := Order(l), Ahead(l, "d"), Holders(api.Permit, 9, l)
	for i := range l {
		order[i].Key = "?"
	}
	for i := range ahead {
		ahead[i].Key = "?"
	}
	slices.Sort(holders)
	if tell(l) != text {
		t.Errorf("what was handed in is now %q", tell(l))
	}
	if got := tell(Order(l)); got != "e/w:1 b/r:3 a/w:5 c/r:9 d/r:9" || got != tell(Ahead(l, "d"))+" d/r:9" {
		t.Errorf("the order is now %q", got)
	}
	if got := Holders(api.Permit, 9, l); strings.Join(got, "") != "ebacd" {
		t.Errorf("the holders are now %q", got)
	}
}
