package bag

import (
	"math"
	"math/rand"
	"reflect"
	"slices"
	"strconv"
	"strings"
	"testing"

	"baton/api"
)

// some is n messages that may be, each with a text of its own.
func some(n int) []api.Msg {
	var l []api.Msg
	for i := range n {
		l = append(l, api.Msg{From: i % 6, To: (i + 1) % 6, Body: "m" + strconv.Itoa(i)})
	}
	return l
}

// wrong is messages none of which may be.
func wrong() []api.Msg {
	long := strings.Repeat("x", 4097)
	return []api.Msg{
		{}, {From: 1, To: 1}, {From: 5, To: 5, Body: "x"}, {From: 6, To: 6}, {From: -1, To: -1},
		{From: 6}, {To: 6}, {From: 2, To: 6}, {From: 6, To: 2}, {From: -1}, {To: -1}, {From: -1, To: 6},
		{From: math.MinInt}, {From: math.MaxInt}, {To: math.MinInt}, {To: math.MaxInt}, {From: math.MaxInt, To: math.MinInt},
		{From: 1, Body: long}, {To: 5, Body: long}, {From: 2, To: 1, Body: long + long},
	}
}

// P12.1
func TestMayOfOneMessage(t *testing.T) {
	for from := -2; from < 9; from++ {
		for to := -2; to < 9; to++ {
			want := 0 <= from && from <= 5 && 0 <= to && to <= 5 && from != to
			if got := May([]api.Msg{{From: from, To: to, Body: "x"}}); got != want {
				t.Errorf("from %d to %d: %v", from, to, got)
			}
		}
	}
	for n, want := range map[int]bool{0: true, 1: true, 4095: true, 4096: true, 4097: false, 1 << 20: false} {
		if got := May([]api.Msg{{From: 1, Body: strings.Repeat("\xff", n)}}); got != want {
			t.Errorf("of %d bytes: %v", n, got)
		}
	}
	for i, m := range wrong() {
		if May([]api.Msg{m}) {
			t.Errorf("of wrong message %d it is true", i)
		}
	}
}

// P12.1
func TestMay(t *testing.T) {
	for n, want := range map[int]bool{0: true, 1: true, 15: true, 16: true, 17: false, 99: false} {
		if got := May(some(n)); got != want {
			t.Errorf("of %d messages it is %v", n, got)
		}
	}
	if !May([]api.Msg{}) {
		t.Error("of an empty list it is false")
	}
	// The same one again is one more.
	if m := (api.Msg{From: 3, Body: "x"}); !May(slices.Repeat([]api.Msg{m}, 16)) || May(slices.Repeat([]api.Msg{m}, 17)) {
		t.Error("it is otherwise where all are alike")
	}
	// One that may not be, wherever it stands.
	for at := range 16 {
		b := some(16)
		b[at] = api.Msg{From: 4, To: 4}
		if May(b) {
			t.Errorf("with a wrong one at %d it is true", at)
		}
	}
}

// P12.2
func TestPut(t *testing.T) {
	all := some(17)
	for n := range 17 {
		for m := range 17 - n {
			b, e := Put(all[:n], all[n:n+m])
			if !slices.Equal(b, all[:n+m]) || e != api.OK || !May(b) {
				t.Fatalf("%d behind %d are %v, %d", m, n, b, e)
			}
		}
	}
	for _, b := range [][]api.Msg{nil, {}} {
		if got, e := Put(b, nil); len(got) != 0 || e != api.OK {
			t.Errorf("nothing behind nothing is %v, %d", got, e)
		}
		if got, e := Put(all[:3], b); !slices.Equal(got, all[:3]) || e != api.OK {
			t.Errorf("nothing behind three is %v, %d", got, e)
		}
	}
	// A message that is there already is put once more.
	if b, e := Put(all[:2], all[:2]); !slices.Equal(b, []api.Msg{all[0], all[1], all[0], all[1]}) || e != api.OK {
		t.Errorf("it is %v, %d", b, e)
	}
	// What b has is not asked.
	if b, e := Put(wrong()[:2], all[:1]); !slices.Equal(b, []api.Msg{{}, {From: 1, To: 1}, all[0]}) || e != api.OK {
		t.Errorf("it is %v, %d", b, e)
	}
	body := strings.Repeat("x", 4096)
	if b, e := Put(nil, []api.Msg{{To: 5, Body: body}}); len(b) != 1 || b[0] != (api.Msg{To: 5, Body: body}) || e != api.OK {
		t.Errorf("a long one is %d, %d", len(b), e)
	}
}

// P12.2: of several errors the first one is told.
func TestPutOfWrongArguments(t *testing.T) {
	type put struct {
		b, l []api.Msg
		e    api.Errno
	}
	all := some(99)
	cases := []put{
		{all[:16], all[:1], api.ErrFull}, {all[:15], all[:2], api.ErrFull}, {all[:1], all[:16], api.ErrFull},
		{nil, all[:17], api.ErrFull}, {all[:9], all[:8], api.ErrFull}, {nil, all, api.ErrFull}, {all[:17], nil, api.ErrFull}, {all, all, api.ErrFull},
		{all[:16], []api.Msg{{}}, api.ErrArg}, {all[:20], []api.Msg{{}}, api.ErrArg},
		{nil, append(some(20), api.Msg{From: 6}), api.ErrArg}, {all[:2], append([]api.Msg{{}}, all[:3]...), api.ErrArg},
		{wrong()[:3], []api.Msg{{From: 2, To: 2}}, api.ErrArg}, {append(wrong(), wrong()...), all[:1], api.ErrFull},
	}
	for _, m := range wrong() {
		cases = append(cases, put{all[:3], []api.Msg{m}, api.ErrArg}, put{nil, []api.Msg{all[0], m, all[1]}, api.ErrArg})
	}
	for i, c := range cases {
		if got, e := Put(c.b, c.l); !slices.Equal(got, c.b) || e != c.e {
			t.Errorf("case %d: %v, %d", i, got, e)
		}
	}
}

// P12.3
func TestTake(t *testing.T) {
	for n := 1; n <= 16; n++ {
		for i := range n {
			b := some(n)
			m, rest, e := Take(b, i)
			want := append(some(i), some(n)[i+1:]...)
			if m != some(n)[i] || !slices.Equal(rest, want) || e != api.OK || !May(rest) {
				t.Fatalf("%d of %d is %v, %v, %d", i, n, m, rest, e)
			}
		}
	}
	// Also of a bag that may not be, and where all are alike.
	m, rest, e := Take(some(40), 39)
	if m != some(40)[39] || !slices.Equal(rest, some(39)) || e != api.OK {
		t.Errorf("it is %v, %v, %d", m, rest, e)
	}
	m, rest, e = Take(make([]api.Msg, 3), 1)
	if m != (api.Msg{}) || !slices.Equal(rest, make([]api.Msg, 2)) || e != api.OK {
		t.Errorf("it is %v, %v, %d", m, rest, e)
	}
}

// P12.3
func TestCopy(t *testing.T) {
	for n := 1; n <= 15; n++ {
		for i := range n {
			b, e := Copy(some(n), i)
			if want := append(some(n), some(n)[i]); !slices.Equal(b, want) || e != api.OK || !May(b) {
				t.Fatalf("%d of %d is %v, %d", i, n, b, e)
			}
		}
	}
	// What b has is not asked.
	if b, e := Copy([]api.Msg{{From: 9}, {Body: "x"}}, 1); !slices.Equal(b, []api.Msg{{From: 9}, {Body: "x"}, {Body: "x"}}) || e != api.OK {
		t.Errorf("it is %v, %d", b, e)
	}
}

// P12.3: where there is no such message, and where there is no room.
func TestTakeAndCopyOfWrongArguments(t *testing.T) {
	for _, n := range []int{0, 1, 3, 15, 16, 17, 40} {
		for _, i := range []int{-1, n, n + 1, -n - 1, math.MinInt, math.MaxInt} {
			m, rest, e := Take(some(n), i)
			if m != (api.Msg{}) || !slices.Equal(rest, some(n)) || e != api.ErrNone {
				t.Errorf("%d of %d is taken: %v, %v, %d", i, n, m, rest, e)
			}
			// That there is none is told ahead of that there is no room.
			if b, e := Copy(some(n), i); !slices.Equal(b, some(n)) || e != api.ErrNone {
				t.Errorf("%d of %d is copied: %v, %d", i, n, b, e)
			}
		}
	}
	for _, n := range []int{16, 17, 40} {
		for _, i := range []int{0, n / 2, n - 1} {
			if b, e := Copy(some(n), i); !slices.Equal(b, some(n)) || e != api.ErrFull {
				t.Errorf("%d of %d is copied: %v, %d", i, n, b, e)
			}
		}
	}
	for _, b := range [][]api.Msg{nil, {}} {
		m, rest, e := Take(b, 0)
		if copied, f := Copy(b, 0); m != (api.Msg{}) || len(rest) != 0 || e != api.ErrNone || len(copied) != 0 || f != api.ErrNone {
			t.Errorf("of none it is %v, %v, %d, %v, %d", m, rest, e, copied, f)
		}
	}
}

// P12.4
func TestBetween(t *testing.T) {
	b := []api.Msg{{From: 2, Body: "x"}, {To: 2}, {From: 2, To: 3}, {From: 2, Body: "y"}, {From: 3, To: 2}, {From: 2, Body: "x"}, {From: 1, To: 0}}
	for ends, want := range map[[2]int][]int{
		{2, 0}: {0, 3, 5}, {0, 2}: {1}, {2, 3}: {2}, {3, 2}: {4}, {1, 0}: {6},
		{0, 1}: nil, {3, 0}: nil, {0, 3}: nil, {4, 5}: nil, {0, 0}: nil, {2, 2}: nil,
		{-1, 0}: nil, {2, 6}: nil, {math.MinInt, math.MaxInt}: nil,
	} {
		if got := Between(b, ends[0], ends[1]); !slices.Equal(got, want) {
			t.Errorf("from %d to %d there are %v", ends[0], ends[1], got)
		}
	}
	if got := Between(nil, 0, 1); len(got) != 0 {
		t.Errorf("of none it is %v", got)
	}
	// Also of messages that may not be.
	odd := []api.Msg{{From: 9, To: 9}, {}, {From: -1, To: 9}, {From: 9, To: 9, Body: "x"}}
	if a, b, c := Between(odd, 9, 9), Between(odd, 0, 0), Between(odd, -1, 9); !slices.Equal(a, []int{0, 3}) || !slices.Equal(b, []int{1}) || !slices.Equal(c, []int{2}) {
		t.Errorf("they are %v, %v, %v", a, b, c)
	}
}

// P12.4: each message is between two, once.
func TestEachIsBetweenTwo(t *testing.T) {
	random := rand.New(rand.NewSource(12))
	for range 100 {
		var b []api.Msg
		for range 16 {
			b = append(b, api.Msg{From: random.Intn(6), To: random.Intn(6)})
		}
		met := map[int]bool{}
		for from := range 6 {
			for to := range 6 {
				at := Between(b, from, to)
				if !slices.IsSorted(at) {
					t.Fatalf("they do not rise: %v", at)
				}
				for _, i := range at {
					if met[i] || b[i].From != from || b[i].To != to {
						t.Fatalf("from %d to %d there is %d of %v", from, to, i, b)
					}
					met[i] = true
				}
			}
		}
		if len(met) != 16 {
			t.Fatalf("of %v only %v are between two", b, met)
		}
	}
}

// The chapter's example.
func TestCopyOfTwo(t *testing.T) {
	b, e := Copy(some(2), 0)
	if len(b) != 3 || b[2] != b[0] || !slices.Equal(b[:2], some(2)) || e != api.OK {
		t.Errorf("it is %v, %d", b, e)
	}
}

// P12.5: a bag by a model that counts how often each message is on its way.
func TestNothingIsLost(t *testing.T) {
	random := rand.New(rand.NewSource(5))
	for range 50 {
		var b []api.Msg
		count, size, put := map[string]int{}, 0, 0
		for range 400 {
			var e, want api.Errno
			switch i := random.Intn(size+2) - 1; random.Intn(3) {
			case 0:
				l := some(put + random.Intn(4))[put:]
				if put += len(l); size+len(l) > 16 {
					want = api.ErrFull
				} else {
					size += len(l)
					for _, m := range l {
						count[m.Body]++
					}
				}
				b, e = Put(b, l)
			case 1:
				var m api.Msg
				m, b, e = Take(b, i)
				if want = none(i, size); want == api.OK {
					size--
					count[m.Body]--
				}
				if count[m.Body] < 0 {
					t.Fatalf("%v is taken that is not there", m)
				}
			default:
				want = none(i, size)
				if want == api.OK && size == 16 {
					want = api.ErrFull
				}
				if want == api.OK {
					size++
					count[b[i].Body]++
				}
				b, e = Copy(b, i)
			}
			if e != want {
				t.Fatalf("it is %d, not %d", e, want)
			}
			check(t, b, size, count)
		}
	}
}

// none tells the error of message i where there are so many.
func none(i int, size int) api.Errno {
	if i < 0 || i >= size {
		return api.ErrNone
	}
	return api.OK
}

// check holds b against what is to be.
func check(t *testing.T, b []api.Msg, size int, count map[string]int) {
	t.Helper()
	if !May(b) || len(b) != size {
		t.Fatalf("it may be: %v; of %d it has %v", May(b), size, b)
	}
	left := map[string]int{}
	for _, m := range b {
		left[m.Body]++
	}
	for body, n := range count {
		if left[body] != n {
			t.Fatalf("of %s there are %d, not %d", body, left[body], n)
		}
	}
}

// P12.5: all that is put is taken, in any order.
func TestWhatIsPutIsTaken(t *testing.T) {
	random := rand.New(rand.NewSource(6))
	for range 100 {
		var taken []string
		b, e := Put(nil, some(16))
		for len(b) > 0 && e == api.OK {
			var m api.Msg
			m, b, e = Take(b, random.Intn(len(b)))
			taken = append(taken, m.Body)
		}
		slices.Sort(taken)
		if e != api.OK || len(slices.Compact(taken)) != 16 {
			t.Fatalf("taken are %v, %d", taken, e)
		}
	}
}

// R1: bags that may not be, and numbers from both ends, are no reason to panic.
func TestNothingPanics(t *testing.T) {
	numbers := []int{math.MinInt, math.MinInt + 1, -1, 0, 1, 5, 6, 15, 16, 17, math.MaxInt - 1, math.MaxInt}
	for _, b := range [][]api.Msg{nil, {}, wrong(), some(1), some(16), some(17), make([]api.Msg, 1<<12)} {
		May(b)
		Put(b, b)
		Put(b, nil)
		Put(nil, b)
		for _, n := range numbers {
			Take(b, n)
			Copy(b, n)
			for _, m := range numbers {
				Between(b, n, m)
			}
		}
	}
}

// R5: what is handed in is not changed, also where its list has room behind it; what is done shares nothing with it.
func TestNothingIsShared(t *testing.T) {
	whole, l := some(6), some(3)
	part := whole[:4]
	more, e := Put(part, l)
	same, f := Put(part, nil)
	only, g := Put(nil, l)
	m, less, h := Take(part, 1)
	again, k := Copy(part, 2)
	first, most, n := Take(part, 0)
	if e+f+g+h+k+n != api.OK || m != whole[1] || first != whole[0] {
		t.Fatalf("it is %d, %d, %d, %d, %d, %d", e, f, g, h, k, n)
	}
	if !reflect.DeepEqual(whole, some(6)) || !slices.Equal(l, some(3)) {
		t.Errorf("what was handed in is now %v and %v", whole, l)
	}
	for _, b := range [][]api.Msg{more, same, only, less, again, most} {
		clear(b)
	}
	if !slices.Equal(whole, some(6)) || !slices.Equal(l, some(3)) {
		t.Errorf("what was answered is shared with what was handed in: %v and %v", whole, l)
	}
}
