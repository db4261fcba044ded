package memo

import (
	"cmp"
	"fmt"
	"math"
	"math/rand"
	"reflect"
	"slices"
	"testing"

	"baton/api"
)

// of is a memo whose reply tells whose it is.
func of(who, seq int) api.Memo {
	return api.Memo{Who: who, Seq: seq, Reply: reply(who, seq)}
}

// reply is one that is like no other one's.
func reply(who, seq int) api.Reply {
	return api.Reply{Who: who, Seq: seq, Rev: 100*who + seq, KVs: []api.KV{{Key: fmt.Sprint(who, seq)}}, Events: []api.Event{{Rev: seq}}}
}

// all is memos of one, of so many Seqs.
func all(who int, seqs ...int) []api.Memo {
	var l []api.Memo
	for _, seq := range seqs {
		l = append(l, of(who, seq))
	}
	return l
}

// floors is one for each pair of a Who and a Seq.
func floors(pairs ...[2]int) []api.Floor {
	var l []api.Floor
	for _, p := range pairs {
		l = append(l, api.Floor{Who: p[0], Seq: p[1]})
	}
	return l
}

// kept is m with so many more of who, none of which may fail.
func kept(t *testing.T, m api.Memos, who int, seqs ...int) api.Memos {
	t.Helper()
	for _, seq := range seqs {
		next, e := Keep(m, who, seq, reply(who, seq))
		if e != api.OK {
			t.Fatalf("Keep of %d, %d is %d", who, seq, e)
		}
		m = next
	}
	return m
}

// copied is m in memory of its own.
func copied(m api.Memos) api.Memos {
	m.L, m.Old = slices.Clone(m.L), slices.Clone(m.Old)
	for i := range m.L {
		m.L[i].Reply.KVs = slices.Clone(m.L[i].Reply.KVs)
		m.L[i].Reply.Events = slices.Clone(m.L[i].Reply.Events)
	}
	return m
}

// P9.1
func TestMay(t *testing.T) {
	eight := []api.Memo{of(1, 1), of(2, 1), of(3, 1), of(4, 1), of(5, 1), of(6, 1), of(7, 1), of(8, 1)}
	for i, c := range []struct {
		m    api.Memos
		want bool
	}{
		{api.Memos{}, true}, {api.Memos{L: []api.Memo{}, Old: []api.Floor{}}, true},

		// The same Who and Seq, side by side or not.
		{api.Memos{L: all(1, 1, 2, 3)}, true},
		{api.Memos{L: all(1, 3, 1, 2)}, true},
		{api.Memos{L: all(1, 1, 1)}, false},
		{api.Memos{L: all(1, 1, 2, 1)}, false},
		{api.Memos{L: []api.Memo{of(1, 2), of(2, 1), of(1, 2)}}, false},
		{api.Memos{L: []api.Memo{of(1, 2), of(2, 1), of(1, 1), of(2, 2)}}, true},
		{api.Memos{L: []api.Memo{of(0, 0), of(0, 0)}}, false},
		// Their replies are nothing to it.
		{api.Memos{L: []api.Memo{{Who: 1, Seq: 1, Reply: reply(9, 9)}, {Who: 1, Seq: 2, Reply: reply(9, 9)}}}, true},

		// Four things of one, of each.
		{api.Memos{L: all(1, 1, 2, 3, 4)}, true},
		{api.Memos{L: all(1, 1, 2, 3, 4, 5)}, false},
		{api.Memos{L: append(all(1, 1, 2, 3, 4), all(2, 1, 2, 3, 4)...)}, true},
		{api.Memos{L: append(all(1, 1, 2, 3, 4), all(2, 1, 2, 3, 4, 5)...)}, false},

		// Floors.
		{api.Memos{Old: floors([2]int{1, 5}, [2]int{2, 5})}, true},
		{api.Memos{Old: floors([2]int{1, 5}, [2]int{1, 5})}, false},
		{api.Memos{Old: floors([2]int{1, 5}, [2]int{2, 5}, [2]int{1, 6})}, false},
		{api.Memos{Old: floors([2]int{2, -9})}, true},

		// Seqs above the floor of their own.
		{api.Memos{L: all(1, 7, 6), Old: floors([2]int{1, 5})}, true},
		{api.Memos{L: all(1, 7, 5), Old: floors([2]int{1, 5})}, false},
		{api.Memos{L: all(1, 4, 7), Old: floors([2]int{1, 5})}, false},
		{api.Memos{L: all(1, 4), Old: floors([2]int{2, 5})}, true},
		{api.Memos{L: append(all(1, 4), of(2, 5)), Old: floors([2]int{3, 1}, [2]int{2, 5})}, false},
		{api.Memos{L: all(1, -9)}, true}, {api.Memos{L: all(1, math.MinInt)}, true},
		{api.Memos{L: all(1, -9), Old: floors([2]int{1, -10})}, true},
		{api.Memos{L: all(1, -9), Old: floors([2]int{1, -9})}, false},
		{api.Memos{L: all(-1, 1), Old: floors([2]int{-1, 0})}, true},

		// Eight of all.
		{api.Memos{L: eight}, true},
		{api.Memos{L: append(slices.Clone(eight), of(9, 1))}, false},
		{api.Memos{L: append(slices.Clone(eight), of(8, 2))}, true},
		{api.Memos{L: eight, Old: floors([2]int{1, 0}, [2]int{8, 0})}, true},
		{api.Memos{L: eight, Old: floors([2]int{9, 0})}, false},
		{api.Memos{L: eight[:7], Old: floors([2]int{9, 0})}, true},
		{api.Memos{L: eight[:7], Old: floors([2]int{9, 0}, [2]int{10, 0})}, false},
	} {
		if got := May(c.m); got != c.want {
			t.Errorf("case %d: %v", i, got)
		}
	}
}

// P9.1
func TestFloor(t *testing.T) {
	m := api.Memos{L: all(4, 1), Old: floors([2]int{3, 5}, [2]int{1, 0}, [2]int{3, 9}, [2]int{-2, -7})}
	for who, want := range map[int]int{3: 5, 1: 0, -2: -7, 4: -1, 0: -1, 2: -1, math.MinInt: -1, math.MaxInt: -1} {
		if got := Floor(m, who); got != want {
			t.Errorf("of %d it is %d", who, got)
		}
	}
	if got := Floor(api.Memos{}, 0); got != -1 {
		t.Errorf("where there is none it is %d", got)
	}
}

// P9.1
func TestSeqs(t *testing.T) {
	m := api.Memos{L: append(all(2, 9, 3, 7, -4), of(1, 5), of(2, 3), of(0, 0)), Old: floors([2]int{3, 5})}
	for who, want := range map[int][]int{2: {-4, 3, 3, 7, 9}, 1: {5}, 0: {0}, 3: nil, -1: nil, math.MaxInt: nil} {
		if got := Seqs(m, who); !slices.Equal(got, want) {
			t.Errorf("of %d it is %v", who, got)
		}
	}
}

// P9.1
func TestWhos(t *testing.T) {
	for i, c := range []struct {
		m    api.Memos
		want []int
	}{
		{api.Memos{}, nil},
		{api.Memos{L: append(all(7, 1, 2), all(3, 1)...)}, []int{3, 7}},
		{api.Memos{Old: floors([2]int{7, 1}, [2]int{-3, 1}, [2]int{7, 2})}, []int{-3, 7}},
		{api.Memos{L: append(all(7, 1, 2), of(0, 0)), Old: floors([2]int{9, 1}, [2]int{7, 0}, [2]int{2, 0})}, []int{0, 2, 7, 9}},
	} {
		if got := Whos(c.m); !slices.Equal(got, c.want) {
			t.Errorf("case %d: %v", i, got)
		}
	}
}

// P9.2
func TestLook(t *testing.T) {
	m := api.Memos{L: append(all(2, 9, 7, 3), of(1, 5)), Old: floors([2]int{2, 3}, [2]int{4, 6})}
	again := api.Memos{L: []api.Memo{of(2, 1), {Who: 1, Seq: 1, Reply: reply(5, 5)}, {Who: 1, Seq: 1, Reply: reply(6, 6)}}}
	for i, c := range []struct {
		m        api.Memos
		who, seq int
		want     api.Reply
		is       bool
		e        api.Errno
	}{
		{m, 2, 9, reply(2, 9), true, api.OK}, {m, 2, 7, reply(2, 7), true, api.OK}, {m, 1, 5, reply(1, 5), true, api.OK},
		// What is kept is told, also where it may not be.
		{m, 2, 3, reply(2, 3), true, api.OK},
		// The first one of them.
		{again, 1, 1, reply(5, 5), true, api.OK},

		{m, 2, 2, api.Reply{}, false, api.ErrOld}, {m, 2, 4, api.Reply{}, false, api.OK},
		{m, 2, 8, api.Reply{}, false, api.OK}, {m, 2, math.MaxInt, api.Reply{}, false, api.OK},
		{m, 2, -1, api.Reply{}, false, api.ErrOld}, {m, 2, math.MinInt, api.Reply{}, false, api.ErrOld},
		{m, 4, 6, api.Reply{}, false, api.ErrOld}, {m, 4, 7, api.Reply{}, false, api.OK},
		// Where there is no floor it is -1.
		{m, 1, 9, api.Reply{}, false, api.OK}, {m, 1, 0, api.Reply{}, false, api.OK}, {m, 1, -1, api.Reply{}, false, api.ErrOld},
		{m, 3, 0, api.Reply{}, false, api.OK}, {m, 3, -1, api.Reply{}, false, api.ErrOld}, {m, 9, 9, api.Reply{}, false, api.OK},
		{api.Memos{}, 0, 0, api.Reply{}, false, api.OK}, {api.Memos{}, -5, 0, api.Reply{}, false, api.OK},
		{api.Memos{Old: floors([2]int{1, -9})}, 1, -8, api.Reply{}, false, api.OK},
		{api.Memos{Old: floors([2]int{1, -9})}, 1, -9, api.Reply{}, false, api.ErrOld},
	} {
		got, is, e := Look(c.m, c.who, c.seq)
		if !reflect.DeepEqual(got, c.want) || is != c.is || e != c.e {
			t.Errorf("case %d: %v, %v, %d", i, got, is, e)
		}
	}
}

// P9.2: the ninth one has no room, but those that are there have.
func TestLookWhereAllAreThere(t *testing.T) {
	seven := api.Memos{Old: floors([2]int{11, 5}, [2]int{12, 5}, [2]int{13, 5}, [2]int{14, 5}), L: append(all(15, 1), of(16, 1), of(17, 1))}
	eight := api.Memos{Old: append(floors([2]int{18, 5}), seven.Old...), L: seven.L}
	nine := api.Memos{Old: append(floors([2]int{19, 5}), eight.Old...), L: eight.L}
	for i, c := range []struct {
		m        api.Memos
		who, seq int
		e        api.Errno
	}{
		{seven, 1, 1, api.OK}, {seven, 18, 1, api.OK}, {seven, 11, 6, api.OK},
		{eight, 1, 1, api.ErrFull}, {eight, 1, 0, api.ErrFull}, {eight, math.MinInt, 0, api.ErrFull},
		{eight, 18, 6, api.OK}, {eight, 15, 2, api.OK}, {eight, 15, 0, api.OK},
		// Old is ahead of full.
		{eight, 1, -1, api.ErrOld}, {eight, 18, 5, api.ErrOld},
		{nine, 1, 1, api.ErrFull}, {nine, 19, 6, api.OK}, {nine, 1, -1, api.ErrOld},
	} {
		got, is, e := Look(c.m, c.who, c.seq)
		if !reflect.DeepEqual(got, api.Reply{}) || is || e != c.e {
			t.Errorf("case %d: %v, %v, %d", i, got, is, e)
		}
		if _, e := Keep(c.m, c.who, c.seq, reply(1, 1)); e != c.e {
			t.Errorf("case %d: Keep is %d", i, e)
		}
	}
	if p, is, e := Look(eight, 15, 1); !is || e != api.OK || p.Rev != 1501 {
		t.Errorf("what is kept is %v, %v, %d", p, is, e)
	}
}

// P9.3
func TestKeep(t *testing.T) {
	old := floors([2]int{1, 3}, [2]int{2, 4})
	for i, c := range []struct {
		m        api.Memos
		who, seq int
		l        []api.Memo
		old      []api.Floor
	}{
		// Behind all.
		{api.Memos{}, 0, 0, all(0, 0), nil},
		{api.Memos{L: all(1, 5, 9)}, 1, 7, all(1, 5, 9, 7), nil},
		{api.Memos{L: all(2, 5, 6), Old: old}, 1, 4, append(all(2, 5, 6), of(1, 4)), old},
		{api.Memos{L: all(1, 5, 6, 7)}, 1, 1, all(1, 5, 6, 7, 1), nil},
		// Four of another one are nothing to it.
		{api.Memos{L: all(2, 5, 6, 7, 8)}, 1, 1, append(all(2, 5, 6, 7, 8), of(1, 1)), nil},

		// The least one is let go, wherever it stands; its floor comes behind all.
		{api.Memos{L: all(1, 1, 2, 3, 4)}, 1, 5, all(1, 2, 3, 4, 5), floors([2]int{1, 1})},
		{api.Memos{L: all(1, 9, 4, 2, 6)}, 1, 3, all(1, 9, 4, 6, 3), floors([2]int{1, 2})},
		{api.Memos{L: all(3, 9, 4, 6, 2), Old: old}, 3, 11, all(3, 9, 4, 6, 11), floors([2]int{1, 3}, [2]int{2, 4}, [2]int{3, 2})},
		{api.Memos{L: slices.Concat(all(2, 1), all(1, 2), all(2, 2), all(1, 3, 4, 1))}, 1, 8, slices.Concat(all(2, 1), all(1, 2), all(2, 2), all(1, 3, 4, 8)), floors([2]int{1, 1})},
		// It may be the new one.
		{api.Memos{L: all(1, 5, 6, 7, 8)}, 1, 4, all(1, 5, 6, 7, 8), floors([2]int{1, 4})},
		{api.Memos{L: all(1, 5, 6, 7, 8)}, 1, 0, all(1, 5, 6, 7, 8), floors([2]int{1, 0})},
		// Its floor has its place.
		{api.Memos{L: all(1, 5, 6, 7, 8), Old: old}, 1, 9, all(1, 6, 7, 8, 9), floors([2]int{1, 5}, [2]int{2, 4})},
		{api.Memos{L: all(2, 5, 6, 7, 8), Old: old}, 2, 9, all(2, 6, 7, 8, 9), floors([2]int{1, 3}, [2]int{2, 5})},

		// Of memos that may not be: a floor does not fall, the first one is meant, one alone is let go, the first one.
		{api.Memos{L: all(1, 2, 6, 7, 8), Old: old}, 1, 9, all(1, 6, 7, 8, 9), old},
		{api.Memos{L: all(1, 3, 6, 7, 8), Old: old}, 1, 9, all(1, 6, 7, 8, 9), old},
		{api.Memos{L: all(1, 5, 6, 7, 8), Old: floors([2]int{1, 1}, [2]int{1, 2})}, 1, 9, all(1, 6, 7, 8, 9), floors([2]int{1, 5}, [2]int{1, 2})},
		{api.Memos{L: all(1, 5, 6, 7, 8), Old: floors([2]int{1, 1}, [2]int{1, 9})}, 1, 9, all(1, 6, 7, 8, 9), floors([2]int{1, 5}, [2]int{1, 9})},
		{api.Memos{L: all(1, 5, 6, 4, 7, 8, 9)}, 1, 10, all(1, 5, 6, 7, 8, 9, 10), floors([2]int{1, 4})},
		{api.Memos{L: []api.Memo{of(1, 6), {Who: 1, Seq: 5}, of(1, 7), of(1, 5)}}, 1, 8, all(1, 6, 7, 5, 8), floors([2]int{1, 5})},
		{api.Memos{L: []api.Memo{of(1, 6), of(1, 5), of(1, 7), {Who: 1, Seq: 5}}}, 1, 8, []api.Memo{of(1, 6), of(1, 7), {Who: 1, Seq: 5}, of(1, 8)}, floors([2]int{1, 5})},
		{api.Memos{L: all(1, -9, 6, 7, 8)}, 1, 9, all(1, 6, 7, 8, 9), floors([2]int{1, -9})},
	} {
		got, e := Keep(c.m, c.who, c.seq, reply(c.who, c.seq))
		if !same(got, api.Memos{L: c.l, Old: c.old}) || e != api.OK {
			t.Errorf("case %d: %v, %d", i, got, e)
		}
	}
	// The reply is kept as it is, whatever it tells.
	p := api.Reply{Code: 99, Who: 7, Seq: -1, KVs: make([]api.KV, 40)}
	m, _ := Keep(api.Memos{}, 1, 2, p)
	if got, is, e := Look(m, 1, 2); !reflect.DeepEqual(got, p) || !is || e != api.OK {
		t.Errorf("it is %v, %v, %d", got, is, e)
	}
}

// same holds two against each other, where a list that is empty may be nil.
func same(a, b api.Memos) bool {
	return slices.EqualFunc(a.L, b.L, func(x, y api.Memo) bool { return reflect.DeepEqual(x, y) }) && slices.Equal(a.Old, b.Old)
}

// P9.3: what is there is not kept twice, and what is old is not kept.
func TestKeepOfWrongArguments(t *testing.T) {
	m := kept(t, api.Memos{}, 1, 3, 4, 5, 6, 7)
	for _, c := range []struct {
		who, seq int
		e        api.Errno
	}{
		{1, 4, api.ErrBusy}, {1, 7, api.ErrBusy},
		{1, 3, api.ErrOld}, {1, 2, api.ErrOld}, {1, math.MinInt, api.ErrOld}, {2, -1, api.ErrOld},
	} {
		if got, e := Keep(m, c.who, c.seq, reply(8, 8)); !reflect.DeepEqual(got, m) || e != c.e {
			t.Errorf("of %d, %d it is %v, %d", c.who, c.seq, got, e)
		}
	}
	full := api.Memos{}
	for who := range 8 {
		full = kept(t, full, who, 1)
	}
	for _, c := range []struct {
		who, seq int
		e        api.Errno
	}{{8, 1, api.ErrFull}, {-1, 1, api.ErrFull}, {8, -1, api.ErrOld}, {7, 1, api.ErrBusy}} {
		if got, e := Keep(full, c.who, c.seq, reply(8, 8)); !reflect.DeepEqual(got, full) || e != c.e {
			t.Errorf("of %d, %d where all are there it is %v, %d", c.who, c.seq, got, e)
		}
	}
}

// The chapter's example.
func TestFiveOfOnes(t *testing.T) {
	m := kept(t, api.Memos{}, 7, 1, 2, 3, 4)
	if len(m.Old) != 0 || Floor(m, 7) != -1 {
		t.Errorf("ahead of the fifth one it is %v", m)
	}
	m = kept(t, m, 7, 5)
	if !slices.Equal(Seqs(m, 7), []int{2, 3, 4, 5}) || Floor(m, 7) != 1 {
		t.Errorf("it is %v", m)
	}
	if _, is, e := Look(m, 7, 1); is || e != api.ErrOld {
		t.Errorf("the first one is %v, %d", is, e)
	}
}

// P9.4: by a model that has all that was ever kept of each.
func TestOfMemosThatMayBeComeSuch(t *testing.T) {
	random := rand.New(rand.NewSource(9))
	for range 10 {
		var m api.Memos
		ever := map[int][]int{}
		for range 120 {
			who, seq := random.Intn(10), random.Intn(20)
			next, e := Keep(m, who, seq, reply(who, seq))
			if e == api.OK {
				if slices.Contains(ever[who], seq) {
					t.Fatalf("%d, %d is kept twice", who, seq)
				}
				ever[who] = append(ever[who], seq)
			} else if !reflect.DeepEqual(next, m) {
				t.Fatalf("beside %d it is changed", e)
			}
			m = next
			if !May(m) {
				t.Fatalf("it may not be: %v", m)
			}
			check(t, m, ever)
		}
	}
}

// check holds m against all that was ever kept: of each, those that fewer than four greater ones came behind are there.
func check(t *testing.T, m api.Memos, ever map[int][]int) {
	t.Helper()
	for who := range 10 {
		top := slices.SortedFunc(slices.Values(ever[who]), func(a, b int) int { return cmp.Compare(b, a) })
		top = top[:min(len(top), 4)]
		for seq := range 20 {
			p, is, e := Look(m, who, seq)
			was := slices.Contains(ever[who], seq)
			switch {
			case is != slices.Contains(top, seq):
				t.Fatalf("%d, %d of %v is told: %v", who, seq, ever[who], is)
			case is && !reflect.DeepEqual(p, reply(who, seq)):
				t.Fatalf("%d, %d is told as %v", who, seq, p)
			case !is && was && e != api.ErrOld:
				t.Fatalf("%d, %d, which was kept, is %d", who, seq, e)
			case !is && e == api.OK && len(ever[who]) == 0 && len(ever) >= 8:
				t.Fatalf("%d is new, where there are %d", who, len(ever))
			}
		}
	}
}

// R1: memos that may not be are no reason to panic.
func TestNothingPanics(t *testing.T) {
	numbers := []int{math.MinInt, -1, 0, 1, math.MaxInt}
	for _, m := range []api.Memos{
		{}, {L: make([]api.Memo, 99), Old: make([]api.Floor, 99)},
		{L: all(math.MinInt, math.MaxInt, math.MinInt, 0, 1, 2), Old: floors([2]int{math.MinInt, math.MaxInt})},
		{Old: floors([2]int{math.MaxInt, math.MinInt}, [2]int{math.MaxInt, math.MaxInt})},
	} {
		May(m)
		Whos(m)
		for _, who := range numbers {
			Floor(m, who)
			Seqs(m, who)
			for _, seq := range numbers {
				Look(m, who, seq)
				Keep(m, who, seq, api.Reply{Code: -1})
			}
		}
	}
}

// R5: what is handed in is not changed, also where its lists have room behind them; what is kept and what is told are
// not shared.
func TestNothingIsShared(t *testing.T) {
	whole := api.Memos{L: append(all(1, 1, 2, 3, 4), of(2, 9)), Old: floors([2]int{1, 0}, [2]int{2, 3}, [2]int{3, 3})}
	before := copied(whole)
	part := api.Memos{L: whole.L[:4], Old: whole.Old[:1]}
	p := reply(1, 5)
	more, e := Keep(part, 1, 5, p)
	other, f := Keep(api.Memos{L: whole.L[:4], Old: whole.Old[1:2]}, 1, 5, p)
	told, is, _ := Look(part, 1, 2)
	if e != api.OK || f != api.OK || !is || Floor(more, 1) != 1 || Floor(other, 1) != 1 {
		t.Fatalf("it is %v, %v, %d, %d", more, other, e, f)
	}
	Seqs(part, 1)
	Whos(part)
	if !reflect.DeepEqual(whole, before) {
		t.Errorf("what was handed in is now %v", whole)
	}
	clear(more.L[len(more.L)-1].Reply.KVs)
	clear(more.L[len(more.L)-1].Reply.Events)
	clear(told.KVs)
	clear(told.Events)
	for _, m := range []api.Memos{more, other} {
		clear(m.L)
		clear(m.Old)
	}
	if !reflect.DeepEqual(whole, before) || !reflect.DeepEqual(p, reply(1, 5)) {
		t.Errorf("what was answered is shared with what was handed in: %v, %v", whole, p)
	}
}
