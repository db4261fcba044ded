package drift

import (
	"math"
	"math/rand"
	"slices"
	"testing"
)

const maxNumber = 1<<40 - 1

// P11.1
func TestRate(t *testing.T) {
	for by, want := range map[int][2]int{
		math.MinInt: {15, 0}, -1: {15, 0}, 0: {15, 0}, 1: {15, 1}, 14: {15, 14},
		15: {15, 15}, 16: {16, 16}, 17: {17, 17},
		18: {17, 18}, 63: {17, 63}, 64: {17, 64}, 65: {17, 64}, maxNumber: {17, 64}, math.MaxInt: {17, 64},
	} {
		if strict, loose := Rate(by, true), Rate(by, false); strict != want[0] || loose != want[1] {
			t.Errorf("of %d it is %d, strict, and else %d", by, strict, loose)
		}
	}
}

// P11.1
func TestRun(t *testing.T) {
	for i, c := range []struct {
		from   int
		l      []int
		strict bool
		want   int
	}{
		{0, nil, true, 0}, {7, nil, false, 7}, {7, []int{}, true, 7},
		{0, []int{16}, true, 16}, {100, []int{15, 16, 17}, true, 148}, {100, []int{15, 16, 17}, false, 148},
		// Each is held in by itself, not their sum.
		{0, []int{0, 32}, true, 32}, {0, []int{0, 33}, true, 32}, {0, []int{-5, 5}, false, 5}, {3, []int{99, 99, 1}, false, 132},
		{0, []int{math.MinInt, math.MaxInt}, true, 32}, {0, []int{math.MinInt, math.MaxInt}, false, 64},
		{9, []int{0, 0, 0}, false, 9}, {9, []int{0, 0, 0}, true, 54},
		// Never above the greatest number.
		{maxNumber - 16, []int{15}, true, maxNumber - 1}, {maxNumber - 16, []int{16}, true, maxNumber},
		{maxNumber - 16, []int{17}, true, maxNumber}, {maxNumber - 1, []int{0, 0}, true, maxNumber},
		{maxNumber - 1, []int{0, 0}, false, maxNumber - 1}, {maxNumber - 1, []int{1, 1}, false, maxNumber},
		{maxNumber, []int{64, 64}, false, maxNumber}, {maxNumber, nil, true, maxNumber}, {maxNumber, []int{0}, true, maxNumber},
		// A from that is none stays.
		{-1, []int{64, 64}, false, -1}, {-1, []int{16}, true, -1}, {-1, nil, true, -1}, {math.MinInt, []int{16}, true, math.MinInt},
		{maxNumber + 1, []int{16}, true, maxNumber + 1}, {maxNumber + 1, nil, false, maxNumber + 1}, {maxNumber + 1, []int{0}, false, maxNumber + 1},
		{math.MaxInt, []int{1}, false, math.MaxInt}, {math.MaxInt, []int{64}, true, math.MaxInt},
	} {
		if got := Run(c.from, c.l, c.strict); got != c.want {
			t.Errorf("case %d: %d", i, got)
		}
	}
}

// P11.1: a run of two lists is the run of the second one behind that of the first one.
func TestRunGoesOn(t *testing.T) {
	random := rand.New(rand.NewSource(11))
	for range 500 {
		from := random.Intn(1000)
		if random.Intn(2) == 0 {
			from = maxNumber - random.Intn(400)
		}
		a, b := some(random, random.Intn(9), 80), some(random, random.Intn(9), 80)
		strict := random.Intn(2) == 0
		if at, want := Run(Run(from, a, strict), b, strict), Run(from, slices.Concat(a, b), strict); at != want {
			t.Fatalf("from %d by %v and %v it is %d, not %d", from, a, b, at, want)
		}
		sum := from
		for _, by := range a {
			sum += Rate(by, strict)
		}
		if at := Run(from, a, strict); at != min(sum, maxNumber) {
			t.Fatalf("from %d by %v it is %d, not %d", from, a, at, sum)
		}
	}
}

// some is n numbers from -8 on, below that.
func some(random *rand.Rand, n int, below int) []int {
	var l []int
	for range n {
		l = append(l, random.Intn(below+8)-8)
	}
	return l
}

// P11.2
func TestSafe(t *testing.T) {
	for ttl, want := range map[int]int{
		math.MinInt: 0, -17: 0, -1: 0, 0: 0, 1: 0, 2: 1, 3: 2, 8: 7, 9: 7, 16: 14, 17: 15, 18: 15, 19: 16, 33: 29, 34: 30, 35: 30,
		100: 88, 200: 176, 986: 870, 999: 881, 1000: 882, 1001: 0, 1003: 0, maxNumber: 0, math.MaxInt: 0,
	} {
		if got := Safe(ttl); got != want {
			t.Errorf("of %d it is %d", ttl, got)
		}
	}
	// It is the greatest number of which 17 are no more than 15 of ttl.
	for ttl := 1; ttl <= 1000; ttl++ {
		if s := Safe(ttl); 17*s > 15*ttl || 17*(s+1) <= 15*ttl {
			t.Errorf("of %d it is %d", ttl, s)
		}
	}
}

// P11.2
func TestSpan(t *testing.T) {
	for ticks, want := range map[int][2]int{
		0: {0, 0}, 1: {15, 17}, 2: {30, 34}, 1000: {15000, 17000},
		1<<30 - 1: {15<<30 - 15, 17<<30 - 17}, 1 << 30: {15 << 30, 17 << 30},
		1<<30 + 1: {0, 0}, maxNumber: {0, 0}, math.MaxInt: {0, 0}, -1: {0, 0}, -1 << 30: {0, 0}, math.MinInt: {0, 0},
	} {
		if least, most := Span(ticks); least != want[0] || most != want[1] {
			t.Errorf("of %d it is %d and %d", ticks, least, most)
		}
	}
	// It is what the slowest one, and the fastest one, goes on by.
	for ticks := range 100 {
		least, most := Span(ticks)
		slowest, fastest := Run(0, slices.Repeat([]int{0}, ticks), true), Run(0, slices.Repeat([]int{99}, ticks), true)
		if least != slowest || most != fastest {
			t.Errorf("of %d it is %d and %d, not %d and %d", ticks, least, most, slowest, fastest)
		}
	}
}

// P11.3
func TestFits(t *testing.T) {
	slowest, fastest := slices.Repeat([]int{0}, 99), slices.Repeat([]int{99}, 99)
	for i, c := range []struct {
		ttl          int
		mine, theirs []int
		want         bool
	}{
		{34, []int{15, 15}, []int{17, 17}, true}, {34, nil, nil, true}, {2, nil, nil, true}, {2, []int{15}, []int{17}, true},
		{1000, nil, fastest, true}, {1000, slowest, nil, true}, {1000, slowest, fastest, true}, {1000, fastest, slowest, true},
		{1000, slowest[:3], fastest, true}, {1000, slowest, fastest[:3], true}, {1000, []int{math.MinInt}, []int{math.MaxInt}, true},
		// Where nothing is safe it is false, whatever the lists are.
		{1, nil, nil, false}, {1, []int{17}, []int{15}, false}, {1, slowest, fastest, false},
		{0, nil, nil, false}, {0, slowest, fastest, false}, {-1, nil, nil, false}, {-17, fastest, slowest, false},
		{1001, nil, nil, false}, {1001, fastest, slowest, false}, {1003, []int{17}, []int{15}, false},
		{math.MinInt, nil, nil, false}, {math.MaxInt, nil, nil, false}, {math.MaxInt, []int{17}, []int{15}, false},
	} {
		if got := Fits(c.ttl, c.mine, c.theirs); got != c.want {
			t.Errorf("case %d: %v", i, got)
		}
	}
}

// P11.3: what is asked of the ticks, where it does not always hold, for more is counted on than is safe.
func TestWithin(t *testing.T) {
	three, fast := []int{15, 15, 15}, []int{17, 17, 17}
	for i, c := range []struct {
		safe, ttl    int
		mine, theirs []int
		want         bool
	}{
		// Two ticks: 30 of the one, 34 of the other.
		{30, 34, three, fast, true}, {31, 34, three, fast, false}, {31, 35, three, fast, true},
		{46, 51, three, fast, false}, {45, 51, three, fast, true}, {46, 52, three, fast, true},
		{16, 17, three, fast, false}, {15, 17, three, fast, true}, {16, 18, three, fast, true},
		// Ticks that not both have are not asked.
		{31, 34, three[:1], fast, true}, {31, 34, three, fast[:1], true}, {31, 34, three[:2], fast, false}, {31, 34, three, fast[:2], false},
		{31, 34, nil, fast, true}, {31, 34, three, nil, true}, {31, 34, nil, nil, true},
		// Both clocks are strict.
		{31, 34, []int{0, 0}, []int{99, 99}, false}, {30, 34, []int{0, 0}, []int{99, 99}, true},
		{18, 15, []int{99}, []int{0}, false}, {17, 15, []int{99}, []int{0}, true}, {18, 16, []int{99}, []int{0}, true},
		// One tick of many is enough, though it is not the last one.
		{33, 34, []int{15, 17, 17, 17}, []int{17, 17, 15, 15}, false}, {32, 34, []int{15, 17, 17, 17}, []int{17, 17, 15, 15}, true},
	} {
		if got := within(c.safe, c.ttl, c.mine, c.theirs); got != c.want {
			t.Errorf("case %d: %v", i, got)
		}
	}
}

// P11.3: by lists of all kinds it is what the words say, tick by tick.
func TestWithinByTheWords(t *testing.T) {
	random := rand.New(rand.NewSource(3))
	fails := 0
	for range 3000 {
		ttl := 1 + random.Intn(200)
		safe := max(Safe(ttl)+random.Intn(40)-2, 0)
		mine, theirs := some(random, random.Intn(16), 30), some(random, random.Intn(16), 30)
		want := true
		for n := 0; n <= len(mine) && n <= len(theirs); n++ {
			if Run(0, mine[:n], true) < safe && Run(0, theirs[:n], true) >= ttl {
				want = false
			}
		}
		if got := within(safe, ttl, mine, theirs); got != want {
			t.Fatalf("of %d and %d by %v and %v it is %v", safe, ttl, mine, theirs, got)
		}
		if !want {
			fails++
		}
	}
	if fails < 100 {
		t.Errorf("only %d of them fail", fails)
	}
}

// P11.4
func TestAllFits(t *testing.T) {
	slowest, fastest := slices.Repeat([]int{15}, 70), slices.Repeat([]int{17}, 70)
	random := rand.New(rand.NewSource(4))
	for ttl := 2; ttl <= 1000; ttl++ {
		for i, c := range [][2][]int{
			{slowest, fastest}, {fastest, slowest}, {slowest, slowest}, {fastest, fastest},
			{some(random, 70, 30), some(random, 70, 30)}, {some(random, 9, 30), some(random, 70, 30)},
		} {
			if !Fits(ttl, c[0], c[1]) {
				t.Errorf("of %d, in case %d, it is false", ttl, i)
			}
		}
	}
}

// P11.4: who counts on one more than what is safe is late, of each ttl that 17 divides.
func TestSafeIsAsMuchAsCanBe(t *testing.T) {
	for ttl := 17; ttl <= 1000; ttl += 17 {
		slowest, fastest := slices.Repeat([]int{15}, ttl/17), slices.Repeat([]int{17}, ttl/17)
		if Run(0, slowest, true) != Safe(ttl) || Run(0, fastest, true) != ttl {
			t.Errorf("of %d it is %d", ttl, Safe(ttl))
		}
		if !within(Safe(ttl), ttl, slowest, fastest) || within(Safe(ttl)+1, ttl, slowest, fastest) {
			t.Errorf("of %d %d is not as much as can be", ttl, Safe(ttl))
		}
	}
}

// The chapter's example.
func TestTheExample(t *testing.T) {
	if got := Safe(34); got != 30 {
		t.Errorf("it is %d", got)
	}
}

// R1: numbers from both ends are no reason to panic, and long lists end.
func TestNothingPanics(t *testing.T) {
	numbers := []int{math.MinInt, math.MinInt + 1, -1, 0, 1, 17, 1000, maxNumber, maxNumber + 1, math.MaxInt - 1, math.MaxInt}
	long := make([]int, 1<<16)
	for _, n := range numbers {
		Safe(n)
		Span(n)
		Fits(n, numbers, long)
		Fits(n, long, numbers)
		for _, strict := range []bool{true, false} {
			Rate(n, strict)
			Run(n, numbers, strict)
			Run(n, long, strict)
			Run(n, nil, strict)
		}
	}
}

// R5, R6: the lists are not changed, and no clock goes on from one call to the next.
func TestNothingIsChanged(t *testing.T) {
	mine, theirs := []int{0, 99, -5}, []int{99, math.MaxInt, 0}
	for range 2 {
		if Run(1, mine, true) != 48 || Run(1, theirs, false) != 129 || !Fits(34, mine, theirs) {
			t.Error("it is not the same again")
		}
	}
	if !slices.Equal(mine, []int{0, 99, -5}) || !slices.Equal(theirs, []int{99, math.MaxInt, 0}) {
		t.Errorf("what was handed in is now %v and %v", mine, theirs)
	}
}
