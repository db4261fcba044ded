package fence

import (
	"errors"
	"fmt"
	"math"
	"math/rand"
	"reflect"
	"slices"
	"strings"
	"testing"

	"baton/api"
	"baton/wire"
)

const maxNumber = 1<<40 - 1

// long is a value of n bytes.
func long(n int) string {
	return strings.Repeat("v", n)
}

// behind is what comes of the writes of l, whatever they are.
func behind(l ...api.Accept) api.Resource {
	r := api.Resource{Log: l}
	if len(l) > 0 {
		last := l[len(l)-1]
		r.High, r.Value = last.Token, last.Value
	}
	return r
}

// many are n writes of one token.
func many(n, token int) []api.Accept {
	return slices.Repeat([]api.Accept{{Who: 1, Token: token, Value: "x"}}, n)
}

// same tells whether a and b are the same, be their lists nil or empty.
func same(a, b api.Resource) bool {
	return a.High == b.High && a.Value == b.Value && slices.Equal(a.Log, b.Log)
}

// P20.1
func TestMay(t *testing.T) {
	for i, r := range []api.Resource{
		{}, {Log: []api.Accept{}},
		behind(api.Accept{Token: 1}), behind(api.Accept{Token: maxNumber}), behind(api.Accept{Who: maxNumber, Token: 1}), behind(api.Accept{Token: 1, Value: long(20)}), behind(api.Accept{Token: 1, Value: strings.Repeat("é", 10)}),
		behind(api.Accept{Token: 3, Value: "a"}, api.Accept{Token: 5, Value: "b"}), behind(api.Accept{Token: 3, Value: "a"}, api.Accept{Token: 3}), behind(api.Accept{Who: 5, Token: 3}, api.Accept{Who: 2, Token: 3}, api.Accept{Who: 5, Token: 3}),
		behind(many(39, 5)...), behind(many(40, 5)...), behind(append(many(20, 5), many(20, 6)...)...),
	} {
		if !May(r) {
			t.Errorf("case %d: %v may not be", i, r)
		}
	}
}

// P20.1
func TestMayOfWhatIsWrong(t *testing.T) {
	l := []api.Accept{{Token: 3, Value: "a"}, {Token: 5, Value: "b"}}
	for i, r := range []api.Resource{
		// High and Value are the last one's.
		{High: 1}, {Value: "x"}, {High: -1}, {High: 5, Log: []api.Accept{}},
		{High: 3, Value: "b", Log: l}, {High: 5, Value: "a", Log: l}, {High: 3, Value: "a", Log: l}, {High: 6, Value: "b", Log: l}, {High: 4, Value: "b", Log: l}, {High: 5, Log: l}, {Value: "b", Log: l}, {Log: l},
		// Tokens never fall.
		behind(api.Accept{Token: 5}, api.Accept{Token: 3}), behind(api.Accept{Token: 5}, api.Accept{Token: 4}, api.Accept{Token: 6}), behind(api.Accept{Token: 3}, api.Accept{Token: 5}, api.Accept{Token: 4}),
		// No number, no value.
		behind(api.Accept{}), behind(api.Accept{Token: -1}), behind(api.Accept{Token: math.MinInt}), behind(api.Accept{Token: maxNumber + 1}), behind(api.Accept{Token: math.MaxInt}),
		behind(api.Accept{Who: -1, Token: 1}), behind(api.Accept{Who: math.MinInt, Token: 1}), behind(api.Accept{Who: maxNumber + 1, Token: 1}), behind(api.Accept{Who: math.MaxInt, Token: 1}),
		behind(api.Accept{Token: 1, Value: long(21)}), behind(api.Accept{Token: 1, Value: long(999)}), behind(api.Accept{Token: 1, Value: strings.Repeat("é", 11)}),
		behind(api.Accept{Token: 1, Value: long(21)}, api.Accept{Token: 1}), behind(api.Accept{Token: 0}, api.Accept{Token: 1}), behind(api.Accept{Who: -1, Token: 1}, api.Accept{Token: 1}),
		// There are too many.
		behind(many(41, 5)...), behind(many(999, 5)...),
	} {
		if May(r) {
			t.Errorf("case %d: %v may be", i, r)
		}
	}
}

// P20.2
func TestWrite(t *testing.T) {
	starts := []api.Resource{{}, behind(api.Accept{Who: 9, Token: 3, Value: "a"}), behind(many(39, 3)...)}
	for _, r := range starts {
		for _, w := range []api.Accept{
			{Who: 1, Token: 3, Value: "b"}, {Who: 1, Token: 4, Value: "b"}, {Who: 9, Token: 3, Value: "a"}, {Token: 7}, {Who: maxNumber, Token: maxNumber, Value: long(20)}, {Who: 1, Token: 5, Value: "\x00\xff \n"},
		} {
			want := api.Resource{High: w.Token, Value: w.Value, Log: append(slices.Clone(r.Log), w)}
			got, e := Write(r, w.Who, w.Token, w.Value)
			if !same(got, want) || e != api.OK || !May(got) {
				t.Errorf("of %v and %v it is %v, %d", r, w, got, e)
			}
		}
	}
	if got, e := Write(api.Resource{}, 0, 1, ""); !same(got, behind(api.Accept{Token: 1})) || e != api.OK {
		t.Errorf("it is %v, %d", got, e)
	}
}

// P20.2: what holds first, of all that hold.
func TestWriteOfWhatIsWrong(t *testing.T) {
	open, full := behind(api.Accept{Who: 9, Token: 3, Value: "a"}), behind(many(40, 3)...)
	over := behind(many(41, 3)...)
	for i, c := range []struct {
		r     api.Resource
		who   int
		token int
		value string
		want  api.Errno
	}{
		{open, 1, 0, "", api.ErrArg}, {open, 1, -1, "", api.ErrArg}, {open, 1, math.MinInt, "", api.ErrArg}, {open, 1, maxNumber + 1, "", api.ErrArg}, {open, 1, math.MaxInt, "", api.ErrArg},
		{open, -1, 5, "", api.ErrArg}, {open, math.MinInt, 5, "", api.ErrArg}, {open, maxNumber + 1, 5, "", api.ErrArg}, {open, math.MaxInt, 5, "", api.ErrArg},
		{open, 1, 5, long(21), api.ErrArg}, {open, 1, 5, long(999), api.ErrArg}, {open, 1, 5, strings.Repeat("é", 11), api.ErrArg},
		{open, 1, 2, "b", api.ErrStale}, {open, 9, 2, "a", api.ErrStale}, {open, 1, 1, long(20), api.ErrStale},
		{full, 1, 3, "b", api.ErrFull}, {full, 1, 4, "b", api.ErrFull}, {over, 1, 3, "b", api.ErrFull},
		// More than one thing is wrong.
		{open, -1, 2, "b", api.ErrArg}, {open, 1, 2, long(21), api.ErrArg}, {open, 1, 0, "b", api.ErrArg},
		{full, -1, 3, "b", api.ErrArg}, {full, 1, 3, long(21), api.ErrArg}, {full, 1, 0, "b", api.ErrArg}, {full, 1, maxNumber + 1, "b", api.ErrArg},
		{full, 1, 2, "b", api.ErrStale}, {over, 1, 2, "b", api.ErrStale}, {full, -1, 2, "b", api.ErrArg},
	} {
		got, e := Write(c.r, c.who, c.token, c.value)
		if !same(got, c.r) || e != c.want {
			t.Errorf("case %d: it is %v, %d", i, got, e)
		}
	}
}

// P20.2: it is held against High and the Log as they stand, also where such a resource may not be.
func TestWriteAsItStands(t *testing.T) {
	for i, c := range []struct {
		r     api.Resource
		token int
		e     api.Errno
	}{
		{api.Resource{High: 7, Value: "x"}, 7, api.OK}, {api.Resource{High: 7}, 6, api.ErrStale}, {api.Resource{High: -7}, 1, api.OK}, {api.Resource{High: math.MaxInt}, maxNumber, api.ErrStale}, {api.Resource{High: math.MinInt}, maxNumber, api.OK},
		{api.Resource{High: 2, Log: []api.Accept{{Who: -1, Token: 9, Value: long(30)}}}, 5, api.OK}, {api.Resource{High: 2, Log: many(40, 9)}, 5, api.ErrFull}, {api.Resource{High: 6, Log: many(40, 1)}, 5, api.ErrStale},
	} {
		want := c.r
		if c.e == api.OK {
			want = api.Resource{High: c.token, Value: "v", Log: append(slices.Clone(c.r.Log), api.Accept{Who: 4, Token: c.token, Value: "v"})}
		}
		if got, e := Write(c.r, 4, c.token, "v"); !same(got, want) || e != c.e {
			t.Errorf("case %d: it is %v, %d", i, got, e)
		}
	}
}

// asks are the bytes of r.
func asks(t *testing.T, r api.Req) string {
	t.Helper()
	body, is := wire.Ask(r)
	if !is {
		t.Fatalf("%v may not be asked", r)
	}
	return body
}

// P20.3: it is Write, whatever else the request says.
func TestDo(t *testing.T) {
	full := behind(many(40, 3)...)
	for _, r := range []api.Resource{{}, behind(api.Accept{Who: 9, Token: 3, Value: "a"}), full, {High: 7}} {
		for _, q := range []api.Req{
			{}, {Who: 4, Token: 3, Value: "z"}, {Who: maxNumber, Token: maxNumber, Value: long(20)}, {Token: 1}, {Who: 4, Value: "z"}, {Token: 2, Value: "b"},
			{Who: 4, Seq: 8, Once: true, Key: "k", Value: "z", Lease: 3, Rev: 2, TTL: 9, Token: 5, Txn: txnOf("k")},
		} {
			q.Kind = api.Write
			want, e := Write(r, q.Who, q.Token, q.Value)
			got, f := Do(r, asks(t, q))
			if !same(got, want) || e != f {
				t.Errorf("of %v and %v it is %v, %d, not %v, %d", r, q, got, f, want, e)
			}
		}
	}
	if got, e := Do(behind(api.Accept{Token: 3}), asks(t, api.Req{Kind: api.Write, Who: 4, Token: 5, Value: "z"})); e != api.OK || !same(got, behind(api.Accept{Token: 3}, api.Accept{Who: 4, Token: 5, Value: "z"})) {
		t.Errorf("it is %v, %d", got, e)
	}
	if got, e := Do(full, asks(t, api.Req{Kind: api.Write, Who: 4, Token: 3, Value: "z"})); e != api.ErrFull || !same(got, full) {
		t.Errorf("it is %v, %d", got, e)
	}
	if got, e := Do(full, asks(t, api.Req{Kind: api.Write, Who: 4, Token: 2, Value: "z"})); e != api.ErrStale || !same(got, full) {
		t.Errorf("it is %v, %d", got, e)
	}
	if got, e := Do(full, asks(t, api.Req{Kind: api.Write, Who: 4, Value: "z"})); e != api.ErrArg || !same(got, full) {
		t.Errorf("it is %v, %d", got, e)
	}
}

// txnOf is some questions and what is done.
func txnOf(k string) api.Txn {
	return api.Txn{If: []api.Cmp{{Key: k, What: 1, How: 1}}, Then: []api.Mut{{Key: k}}, Else: []api.Mut{{Key: k, Gone: true}}}
}

// P20.3: bodies that are no write, be the resource full, and whatever they say beside.
func TestDoOfWhatIsNoWrite(t *testing.T) {
	write := asks(t, api.Req{Kind: api.Write, Who: 4, Token: 5, Value: "z"})
	reply, is := wire.Tell(api.Reply{Who: 4})
	if !is {
		t.Fatal("there is no reply")
	}
	bodies := []string{"", "x", "\x00", reply, write + "x", write + "\x00", write + write, "\x02" + write[1:], "\x01\x09" + write[2:], "\x01\x00" + write[2:]}
	for n := range write {
		bodies = append(bodies, write[:n])
	}
	for kind := api.Range; kind < api.Write; kind++ {
		bodies = append(bodies, asks(t, api.Req{Kind: kind, Who: 4, Token: 5, Value: "z"}))
	}
	for _, r := range []api.Resource{{}, behind(api.Accept{Token: 3}), behind(many(40, 9)...), {High: 7}} {
		for _, body := range bodies {
			if got, e := Do(r, body); !same(got, r) || e != api.ErrForm {
				t.Errorf("of %v and %q it is %v, %d", r, body, got, e)
			}
		}
	}
}

// P20.4
func TestTokens(t *testing.T) {
	for i, c := range []struct {
		tokens []int
		want   []int
	}{
		{nil, nil}, {[]int{3}, []int{3}}, {[]int{3, 3, 3}, []int{3}}, {[]int{3, 5, 5, 9}, []int{3, 5, 9}},
		// Such as no resource has that may be: they rise in what is told, all the same.
		{[]int{9, 3, 5, 3, 9}, []int{3, 5, 9}}, {[]int{0, -1, math.MaxInt, math.MinInt, 0}, []int{math.MinInt, -1, 0, math.MaxInt}},
	} {
		var r api.Resource
		for who, token := range c.tokens {
			r.Log = append(r.Log, api.Accept{Who: who, Token: token})
		}
		// Of the Log alone.
		r.High = 77
		if got := Tokens(r); !slices.Equal(got, c.want) {
			t.Errorf("case %d: %v", i, got)
		}
	}
}

// P20.4
func TestOwners(t *testing.T) {
	r := api.Resource{High: 8, Log: []api.Accept{{Who: 5, Token: 1}, {Who: 2, Token: 1}, {Who: 5, Token: 1}, {Who: 7, Token: 3}, {Who: 0, Token: 3}, {Who: 2, Token: 4}, {Who: 2, Token: 4}, {Who: -3, Token: 0}, {Who: math.MaxInt, Token: -1}, {Who: math.MinInt, Token: -1}, {Who: 1, Token: 1}}}
	for token, want := range map[int][]int{1: {1, 2, 5}, 3: {0, 7}, 4: {2}, 0: {-3}, -1: {math.MinInt, math.MaxInt}, 2: nil, 5: nil, 8: nil, math.MaxInt: nil, math.MinInt: nil} {
		if got := Owners(r, token); !slices.Equal(got, want) {
			t.Errorf("of %d it is %v", token, got)
		}
	}
	for _, token := range []int{0, 1, -1} {
		if got := Owners(api.Resource{}, token); len(got) != 0 {
			t.Errorf("of %d it is %v", token, got)
		}
	}
}

// P20.5: whatever is written, tokens of what was taken never fall, and once one was, each smaller one changes nothing.
func TestTokensNeverFall(t *testing.T) {
	met := map[api.Errno]int{}
	for seed := range 300 {
		random := rand.New(rand.NewSource(int64(seed)))
		var r api.Resource
		high := 0
		for range 100 {
			who, token, value := random.Intn(4), high-2+random.Intn(4), fmt.Sprint(random.Intn(100))
			if random.Intn(10) == 0 {
				token, who = random.Intn(90)-3, random.Intn(3)-1
			}
			var got api.Resource
			var e api.Errno
			if body, is := wire.Ask(api.Req{Kind: api.Write, Who: who, Token: token, Value: value}); is && random.Intn(2) == 0 {
				got, e = Do(r, body)
			} else {
				got, e = Write(r, who, token, value)
			}
			met[e]++
			if !May(got) {
				t.Fatalf("of %v came %v", r, got)
			}
			if e != api.OK {
				if !same(got, r) {
					t.Fatalf("of %v came %v beside %d", r, got, e)
				}
				continue
			}
			if token < high || len(got.Log) != len(r.Log)+1 || !slices.Equal(got.Log[:len(r.Log)], r.Log) || !slices.Contains(Owners(got, token), who) {
				t.Fatalf("of %v came %v by %d", r, got, token)
			}
			high, r = token, got
		}
		tokens := Tokens(r)
		if len(tokens) == 0 || tokens[len(tokens)-1] != high || r.High != high {
			t.Fatalf("of seed %d it is %v, not %d", seed, r, high)
		}
		for token := range high {
			if got, e := Write(r, 1, token, "no"); !same(got, r) || e != api.ErrStale && token > 0 {
				t.Fatalf("of %v and %d it is %v, %d", r, token, got, e)
			}
		}
	}
	for _, e := range []api.Errno{api.OK, api.ErrArg, api.ErrStale, api.ErrFull} {
		if met[e] < 300 {
			t.Errorf("%d was told only %d times", e, met[e])
		}
	}
}

// The chapter's example: of tokens 3, 5, 4 the last one is refused.
func TestThree(t *testing.T) {
	r, e := Write(api.Resource{}, 1, 3, "a")
	r, f := Write(r, 2, 5, "b")
	got, g := Write(r, 1, 4, "c")
	if e != api.OK || f != api.OK || g != api.ErrStale || !same(got, behind(api.Accept{Who: 1, Token: 3, Value: "a"}, api.Accept{Who: 2, Token: 5, Value: "b"})) {
		t.Errorf("it is %d, %d, %d, %v", e, f, g, got)
	}
}

// An error tells of what it is the fault, and is told by the error itself.
func TestFaults(t *testing.T) {
	err := refuses(behind(api.Accept{Token: 3}), api.Accept{Token: 2})
	if err == nil || err.Error() != "token: it is over" || !errors.Is(err, errStale) || errors.Is(err, errArg) {
		t.Errorf("it is %v", err)
	}
	if err := refuses(api.Resource{}, api.Accept{Token: 2}); err != nil {
		t.Errorf("it is %v", err)
	}
}

// R5: what is handed in is not changed, and what is told is not changed later, not by a list that has room.
func TestNothingIsShared(t *testing.T) {
	room := make([]api.Accept, 1, 8)
	room[0] = api.Accept{Who: 1, Token: 9, Value: "a"}
	r := api.Resource{High: 9, Value: "a", Log: room}
	one, _ := Write(r, 1, 9, "b")
	two, _ := Write(r, 2, 10, "c")
	if !same(one, behind(room[0], api.Accept{Who: 1, Token: 9, Value: "b"})) || !same(two, behind(room[0], api.Accept{Who: 2, Token: 10, Value: "c"})) {
		t.Errorf("they are %v, %v", one, two)
	}
	if !reflect.DeepEqual(room[:3], []api.Accept{{Who: 1, Token: 9, Value: "a"}, {}, {}}) {
		t.Errorf("it is %v", room[:3])
	}
	three, _ := Write(one, 3, 11, "d")
	four, _ := Write(one, 4, 12, "e")
	if three.Log[2].Who != 3 || four.Log[2].Who != 4 || len(one.Log) != 2 {
		t.Errorf("they are %v, %v", three, four)
	}
	falling := api.Resource{Log: []api.Accept{{Who: 5, Token: 9}, {Who: 2, Token: 3}, {Who: 1, Token: 9}}}
	kept := slices.Clone(falling.Log)
	Tokens(falling)[0], Owners(falling, 9)[0] = 77, 77
	May(falling)
	if !slices.Equal(falling.Log, kept) || Tokens(falling)[0] != 3 || Owners(falling, 9)[0] != 1 {
		t.Errorf("it is %v", falling)
	}
}

// R1: numbers from both ends and texts of anything are no reason to panic.
func TestNothingPanics(t *testing.T) {
	numbers := []int{math.MinInt, -1, 0, 1, 5, maxNumber, maxNumber + 1, math.MaxInt}
	for _, high := range numbers {
		for _, n := range []int{0, 1, 39, 40, 41, 300} {
			for _, token := range numbers {
				r := api.Resource{High: high, Value: long(n), Log: many(n, token)}
				May(r)
				Tokens(r)
				Owners(r, high)
				for _, who := range numbers {
					Write(r, who, token, long(n))
				}
				for _, body := range []string{"", "\x01", "\xff\xff", long(n), "\x01\x08" + long(n)} {
					Do(r, body)
				}
			}
		}
	}
}
