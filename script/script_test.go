package script

import (
	"errors"
	"fmt"
	"math"
	"math/rand"
	"reflect"
	"slices"
	"strconv"
	"strings"
	"testing"

	"baton/api"
	"baton/audit"
	"baton/fence"
	"baton/key"
	"baton/world"
)

// verbs are the words of moves that have a number and nothing else.
var verbs = map[string]int{
	"step": api.Step, "deliver": api.Deliver, "drop": api.Drop, "copy": api.Copy, "release": api.Release, "pause": api.Pause,
	"resume": api.Resume, "crash": api.Crash, "restart": api.Restart, "shrink": api.Shrink,
}

// kinds are the words of recipes.
var kinds = map[string]int{
	"mutex": api.Mutex, "reader": api.Reader, "writer": api.Writer, "permit": api.Permit, "leader": api.Leader, "party": api.Party,
	"enqueue": api.Enqueue, "dequeue": api.Dequeue,
}

// tells asks that line tells m, and m line.
func tells(t *testing.T, line string, m api.Move) {
	t.Helper()
	if got, is := Parse(line); !is || !reflect.DeepEqual(got, m) {
		t.Errorf("P24.2: %q is %v, %v", line, got, is)
	}
	if got, is := Print(m); !is || got != line {
		t.Errorf("P24.3: of %v it is %q, %v", m, got, is)
	}
}

// isNone asks that line is no move.
func isNone(t *testing.T, line string) {
	t.Helper()
	if got, is := Parse(line); is || !reflect.DeepEqual(got, api.Move{}) {
		t.Errorf("P24.2: %q is %v, %v", line, got, is)
	}
}

// P24.1
func TestNumber(t *testing.T) {
	for n := range 20000 {
		if got, is := Number(strconv.Itoa(n)); !is || got != n {
			t.Errorf("P24.1: of %d it is %d, %v", n, got, is)
		}
	}
	for _, n := range []int{99999, 100000, 999999, 1000000, 1234567, 9000000, 9999999} {
		if got, is := Number(strconv.Itoa(n)); !is || got != n {
			t.Errorf("P24.1: of %d it is %d, %v", n, got, is)
		}
	}
	for _, s := range []string{
		"", "00", "01", "007", "0000000", "0123456", "10000000", "12345678", "00000000", "9999999999999999999999", "-", "-0", "-1", "+1", "1-", "1.", "1.0", "1e3", "0x1", "1_0",
		"a", "1a", "a1", " ", " 1", "1 ", "1 2", "1\n", "\n1", "\x00", "1\x00", "/", ":", "1/", "1:", "\xff", "1\xff", "\xb2", "²", "１", "٣", "1１", "\xc2",
	} {
		if got, is := Number(s); is || got != 0 {
			t.Errorf("P24.1: of %q it is %d, %v", s, got, is)
		}
	}
	// Of each byte, at each place of a number.
	for c := range 256 {
		s := string([]byte{byte(c)})
		if got, is := Number(s); is != ('0' <= c && c <= '9') || is && got != c-'0' {
			t.Errorf("P24.1: of %q it is %d, %v", s, got, is)
		}
		for _, s := range []string{"1" + s, s + "1", "1" + s + "1"} {
			want, e := strconv.Atoi(s)
			if got, is := Number(s); is != (e == nil && strconv.Itoa(want) == s && want >= 0) || is && got != want {
				t.Errorf("P24.1: of %q it is %d, %v", s, got, is)
			}
		}
	}
}

// P24.2, P24.3: moves that have a number, or a value beside that.
func TestMovesOfANumber(t *testing.T) {
	for verb, kind := range verbs {
		for _, n := range []int{0, 1, 3, 10, 9999999} {
			tells(t, fmt.Sprint(verb, " ", n), api.Move{Kind: kind, N: n})
		}
		for _, rest := range []string{"", " ", "  0", " 0 ", " 0 0", " 0 -", " x", " -", " 00", " 01", " -1", " 10000000", " 0\n", " 0\r", "\t0", " 0\t", "0", " 0x"} {
			isNone(t, verb+rest)
		}
		isNone(t, " "+verb+" 0")
		isNone(t, strings.ToUpper(verb)+" 0")
		isNone(t, verb+"s 0")
		isNone(t, verb[1:]+" 0")
	}
	for verb, kind := range map[string]int{"tell": api.Tell, "put": api.Put} {
		for _, value := range []string{"a", "z", "0", "9", "v0", "tick", "00", strings.Repeat("a", 12), strings.Repeat("b", 19), strings.Repeat("9", 20)} {
			tells(t, verb+" 2 "+value, api.Move{Kind: kind, N: 2, Value: value})
		}
		tells(t, verb+" 9999999 -", api.Move{Kind: kind, N: 9999999})
		for _, rest := range []string{
			"", " 1", " 1 ", " 1  ", " 1  a", " a", " - 1", " 1 a ", " 1 a b", " 1 - -", " 1 A", " 1 aB", " 1 --", " 1 a-", " 1 -a", " 1 _", " 1 ?", " 1 a\n", " 1 é", " 1 \xe4", " 01 a",
			" 10000000 a", " 1 " + strings.Repeat("a", 21), " 1 `", " 1 {", " 1 /", " 1 :", " 1 a\x00",
		} {
			isNone(t, verb+rest)
		}
	}
	for _, line := range []string{"", " ", "  ", "0", "-", "go 0", "world 1 strict", "#", "\x00", "\xff 0", "mutex", "mutex 0", "holders", "good", "?", "? 0", "tick step"} {
		isNone(t, line)
	}
}

// P24.2, P24.3
func TestTicks(t *testing.T) {
	tells(t, "tick", api.Move{Kind: api.Tick})
	line := "tick"
	var by []int
	for i := range 9 {
		n := []int{0, 9999999, 15, 17, 64, 1, 100, 10, 3}[i]
		line, by = fmt.Sprint(line, " ", n), append(by, n)
		tells(t, line, api.Move{Kind: api.Tick, By: slices.Clone(by)})
		for _, rest := range []string{" ", " x", " -", " 01", " -1", "  1", " 1 ", " 10000000", "\t1"} {
			isNone(t, line+rest)
		}
		isNone(t, " "+line)
	}
	isNone(t, line+" 1")
	isNone(t, line+" 1 1")
	isNone(t, "tick ")
	isNone(t, "tick1")
	isNone(t, "ticks 1")
	// Of an empty list that is not nil it is the same.
	if line, is := Print(api.Move{Kind: api.Tick, By: []int{}}); !is || line != "tick" {
		t.Errorf("P24.3: it is %q, %v", line, is)
	}
}

// P24.2, P24.3
func TestStarts(t *testing.T) {
	for word, kind := range kinds {
		for _, name := range []string{"a", "0", "az09", "mutex", strings.Repeat("z", 12)} {
			for _, n := range []int{0, 3, 100, 9999999} {
				tells(t, fmt.Sprint("start 1 ", word, " ", name, " ", n, " -"), api.Move{Kind: api.Start, N: 1, Mach: api.Machine{Kind: kind, Name: name, N: n}})
				tells(t, fmt.Sprint("start ", n, " ", word, " ", name, " 0 v1"), api.Move{Kind: api.Start, N: n, Mach: api.Machine{Kind: kind, Name: name, Value: "v1"}})
			}
		}
		tells(t, "start 0 "+word+" a 0 "+strings.Repeat("v", 20), api.Move{Kind: api.Start, Mach: api.Machine{Kind: kind, Name: "a", Value: strings.Repeat("v", 20)}})
		for _, rest := range []string{
			"", " a", " a 0", " a 0 ", " a 0 - ", " a 0 - -", " a 0  -", "  a 0 -", " - 0 -", "  0 -", " A 0 -", " a- 0 -", " é 0 -", " " + strings.Repeat("z", 13) + " 0 -", " a x -", " a - -", " a 00 -", " a -1 -", " a 10000000 -",
			" a 0 A", " a 0 ?", " a 0 " + strings.Repeat("v", 21), " a 0 -\n",
		} {
			isNone(t, "start 0 "+word+rest)
		}
		isNone(t, "start "+word+" a 0 -")
		isNone(t, "start x "+word+" a 0 -")
		isNone(t, "start 01 "+word+" a 0 -")
		isNone(t, "start 0 "+word+"s a 0 -")
		isNone(t, word+" 0 a 0 -")
	}
	for _, line := range []string{"start", "start ", "start 0", "start 0 a 0 -", "start 0 lock a 0 -", "start 0 Mutex a 0 -", "start 0 1 a 0 -", "start 0  a 0 -", "start 0 tick a 0 -", "start 0 step a 0 -", "start 0 - a 0 -"} {
		isNone(t, line)
	}
}

// P24.3: what no line tells.
func TestPrintOfWhatNoLineTells(t *testing.T) {
	mutex := api.Machine{Kind: api.Mutex, Name: "a"}
	of := func(by func(*api.Machine)) api.Move {
		m := api.Move{Kind: api.Start, Mach: mutex}
		by(&m.Mach)
		return m
	}
	l := []api.Move{
		{}, {N: 1}, {Kind: -1}, {Kind: 15}, {Kind: math.MinInt}, {Kind: math.MaxInt}, {Kind: api.Start}, {Kind: api.Start, Mach: mutex, Value: "v"}, {Kind: api.Start, Mach: mutex, By: []int{1}}, {Kind: api.Start, Mach: mutex, N: -1},
		{Kind: api.Start, Mach: mutex, N: 10000000},
		{Kind: api.Tick, N: 1}, {Kind: api.Tick, Value: "v"}, {Kind: api.Tick, Mach: mutex}, {Kind: api.Tick, By: make([]int, 10)}, {Kind: api.Tick, By: make([]int, 100)}, {Kind: api.Tick, By: []int{-1}}, {Kind: api.Tick, By: []int{1, 10000000}}, {Kind: api.Tick, By: []int{math.MinInt}},
		of(func(m *api.Machine) { m.Kind = 0 }), of(func(m *api.Machine) { m.Kind = 9 }), of(func(m *api.Machine) { m.Kind = -1 }), of(func(m *api.Machine) { m.Kind = math.MaxInt }), of(func(m *api.Machine) { m.Name = "" }), of(func(m *api.Machine) { m.Name = "-" }), of(func(m *api.Machine) { m.Name = "A" }), of(func(m *api.Machine) { m.Name = "a 0" }),
		of(func(m *api.Machine) { m.Name = strings.Repeat("a", 13) }), of(func(m *api.Machine) { m.N = -1 }), of(func(m *api.Machine) { m.N = 10000000 }), of(func(m *api.Machine) { m.Value = "-" }), of(func(m *api.Machine) { m.Value = "?" }), of(func(m *api.Machine) { m.Value = "a b" }), of(func(m *api.Machine) { m.Value = " " }), of(func(m *api.Machine) { m.Value = strings.Repeat("v", 21) }),
		of(func(m *api.Machine) { m.Key = "k" }), of(func(m *api.Machine) { m.Lease = 1 }), of(func(m *api.Machine) { m.Phase = 1 }), of(func(m *api.Machine) { m.Token = 1 }), of(func(m *api.Machine) { m.Rev = 1 }), of(func(m *api.Machine) { m.Err = 1 }),
	}
	for _, kind := range verbs {
		l = append(l, api.Move{Kind: kind, N: -1}, api.Move{Kind: kind, N: 10000000}, api.Move{Kind: kind, N: math.MinInt}, api.Move{Kind: kind, Value: "v"}, api.Move{Kind: kind, By: []int{0}}, api.Move{Kind: kind, Mach: mutex}, api.Move{Kind: kind, Mach: api.Machine{Err: 1}})
	}
	for _, kind := range []int{api.Tell, api.Put} {
		for _, value := range []string{"-", "?", "A", " ", "a b", "a\n", "\xff", "é", strings.Repeat("v", 21)} {
			l = append(l, api.Move{Kind: kind, Value: value})
		}
		l = append(l, api.Move{Kind: kind, N: -1}, api.Move{Kind: kind, By: []int{0}}, api.Move{Kind: kind, Mach: mutex}, api.Move{Kind: kind, Value: "v", Mach: api.Machine{Value: "v"}})
	}
	for _, m := range l {
		if line, is := Print(m); is || line != "" {
			t.Errorf("P24.3: of %v it is %q, %v", m, line, is)
		}
	}
}

// P24.6: what is printed is parsed as it was, and there is one line of a move.
func TestWhatIsPrintedIsParsed(t *testing.T) {
	words := []string{"0", "1", "17", "007", "9999999", "10000000", "-", "v", "abc", "A", "", strings.Repeat("w", 13), strings.Repeat("w", 21), "tick", "tick", "start", "start", "start", "tell", "put"}
	for word := range verbs {
		words = append(words, word)
	}
	for word := range kinds {
		words = append(words, word, word)
	}
	slices.Sort(words)
	random := rand.New(rand.NewSource(24))
	count := 0
	for range 300000 {
		l := make([]string, 1+random.Intn(7))
		for i := range l {
			l[i] = words[random.Intn(len(words))]
		}
		line := strings.Join(l, " ")
		m, is := Parse(line)
		if !is {
			continue
		}
		count++
		if got, is := Print(m); !is || got != line {
			t.Fatalf("P24.6: %q is %v, and that %q, %v", line, m, got, is)
		}
	}
	if count < 3000 {
		t.Errorf("only %d were lines", count)
	}
	count = 0
	for range 100000 {
		m := anything(random)
		line, is := Print(m)
		if !is {
			continue
		}
		count++
		if got, is := Parse(line); !is || !same(got, m) {
			t.Fatalf("P24.6: of %v it is %q, and that %v, %v", m, line, got, is)
		}
	}
	if count < 3000 {
		t.Errorf("only %d were printed", count)
	}
}

// anything is a move of anything; many of them a line tells.
func anything(random *rand.Rand) api.Move {
	n := func() int { return []int{0, 1, 2, 9999999, 9999999 + 1, -1}[random.Intn(24)/4%5] }
	value := func() string { return []string{"", "", "v", "w1", "-", "A"}[random.Intn(24)/4%5] }
	m := api.Move{Kind: random.Intn(17) - 1}
	if random.Intn(8) > 0 {
		switch m.Kind {
		case api.Tick:
			for range random.Intn(11) {
				m.By = append(m.By, random.Intn(100)-1)
			}
		case api.Start:
			m.N, m.Mach = n(), api.Machine{Kind: random.Intn(10), Name: value(), N: n(), Value: value()}
		case api.Tell, api.Put:
			m.N, m.Value = n(), value()
		default:
			m.N = n()
		}
		return m
	}
	return api.Move{Kind: m.Kind, N: n(), Value: value(), By: make([]int, random.Intn(2)), Mach: api.Machine{Kind: random.Intn(2), Name: value(), Rev: random.Intn(2)}}
}

// P24.4
func TestRead(t *testing.T) {
	for _, strict := range []bool{true, false} {
		for nodes := 1; nodes <= 4; nodes++ {
			pace := map[bool]string{true: "strict", false: "loose"}[strict]
			want, _ := world.New(nodes, strict)
			for text, moves := range map[string][]api.Move{
				"": nil, "\n": nil, "\ntick": {{Kind: api.Tick}}, "\ntick\n": {{Kind: api.Tick}}, "\nstep 7\ntick 1 2\nput 0 -\n": {{Kind: api.Step, N: 7}, {Kind: api.Tick, By: []int{1, 2}}, {Kind: api.Put}},
			} {
				text = fmt.Sprint("world ", nodes, " ", pace, text)
				w, l, at, e := Read(text)
				if !reflect.DeepEqual(w, want) || !slices.EqualFunc(l, moves, same) || at != 0 || e != api.OK {
					t.Errorf("P24.4: of %q it is %v, %v, %d, %d", text, w, l, at, e)
				}
			}
		}
	}
}

// P24.4, P24.5
func TestReadOfWrongLines(t *testing.T) {
	l := map[string]int{
		"": 0, "\n": 0, "\n\n": 0, "\nworld 1 strict": 0, " ": 0, "x": 0, "tick": 0, "world": 0, "world ": 0, "world 1": 0, "world 1 ": 0, "world strict": 0, "world strict 1": 0, "world x strict": 0, "world - strict": 0, "world 01 strict": 0, "world  strict": 0,
		"world 1 Strict": 0, "world 1 strict ": 0, " world 1 strict": 0, "world  1 strict": 0, "world 1  strict": 0, "world 1 strict strict": 0, "world 1 strict loose": 0, "world 1 tight": 0, "world 1 0": 0, "world 1 -": 0, "World 1 strict": 0, "worlds 1 strict": 0,
		"world 0 strict": 0, "world 5 strict": 0, "world 6 loose": 0, "world 9999999 loose": 0, "world 10000000 loose": 0, "world -1 loose": 0, "world 1 strict\r\ntick": 0, "world 1 strict tick": 0, "tick\nworld 1 strict": 0, "world 0 strict\nx": 0, "x\nx": 0,
		"world 1 strict\n\n": 1, "world 1 strict\n\ntick": 1, "world 1 strict\nx": 1, "world 1 strict\nx\n": 1, "world 1 strict\nworld 1 strict": 1, "world 1 strict\n ": 1, "world 1 strict\ntick \ntick": 1, "world 1 strict\r": 0, "world 1 strict\ntick\r\n": 1,
		"world 1 strict\ntick\n\n": 2, "world 1 strict\ntick\n\ntick": 2, "world 1 strict\ntick\nx\ny": 2, "world 4 loose\ntick\ntick\ntick\nstep\n": 4, "world 1 strict\n" + strings.Repeat("tick\n", 300) + "tock\ntick": 301,
	}
	for text, at := range l {
		w, moves, line, e := Read(text)
		if !reflect.DeepEqual(w, api.World{}) || len(moves) != 0 || line != at || e != api.ErrLine {
			t.Errorf("P24.4: of %q it is %v, %v, %d, %d", text, w, moves, line, e)
		}
		if told, line, e := Play(text); told != "" || line != at || e != api.ErrLine {
			t.Errorf("P24.5: of %q it is %q, %d, %d", text, told, line, e)
		}
	}
}

// A wrong line says which one it is, and what is wrong with it.
func TestWrongLines(t *testing.T) {
	for text, want := range map[string]wrong{
		"": {0, errWord}, "world 5 strict": {0, errWorld}, "world 1 strict 1": {0, errMore}, "world 1 strict\ntick\ngo": {2, errWord}, "world 1 strict\nstep 1 1": {1, errMore}, "world 1 strict\nstep x 1": {1, errWord},
	} {
		_, _, err := read(text)
		var at wrong
		if !errors.As(err, &at) || at != want || !errors.Is(err, want.why) || err.Error() != fmt.Sprint("line ", want.line, ": ", want.why) {
			t.Errorf("of %q it is %v", text, err)
		}
	}
}

// plays holds what comes of text against what is to come of it.
func plays(t *testing.T, what string, text string, want string) {
	t.Helper()
	if got, at, e := Play(text); got != want || at != 0 || e != api.OK {
		t.Errorf("P24.5: %s: it is %q, %d, %d", what, got, at, e)
	}
}

// ends holds the last lines of what comes of text against what they are to be.
func ends(t *testing.T, what string, text string, want string) {
	t.Helper()
	if got, _, e := Play(text); !strings.HasSuffix(got, "\n"+want) || e != api.OK {
		t.Errorf("P24.5: %s: it is %q, %d", what, got, e)
	}
}

// trips are steps of a client, of each of which the one request and its reply are brought.
func trips(n int, times int) string {
	return strings.Repeat(fmt.Sprint("step ", n, "\ndeliver 0\ndeliver 0\n"), times)
}

// zeros are lines of so many moves that did not fail.
func zeros(n int) string {
	return strings.Repeat("0\n", n)
}

// P24.5, and the chapter's example.
func TestPlay(t *testing.T) {
	plays(t, "the chapter's example", "world 1 strict\ntick", "0\nholders\nregister 0 -\ngood\n")
	plays(t, "no move", "world 4 loose", "holders\nregister 0 -\ngood\n")
	plays(t, "no move, and a line's end", "world 4 loose\n", "holders\nregister 0 -\ngood\n")
	plays(t, "errors", "world 1 strict\ntick\nstep 1\nshrink 9\nstart 0 permit a 0 -\nrelease 0\npause 0\nstep 0\nrelease 0\ndrop 0\ncopy 9\n", "0\n5\n8\n1\n5\n0\n0\n11\n5\n5\nholders\nregister 0 -\ngood\n")
	hold := "world 2 strict\nstart 1 mutex a 0 -\n" + trips(1, 3)
	plays(t, "one holds", hold, zeros(10)+"holders 1\nregister 0 -\ngood\n")
	plays(t, "it writes", hold+"put 1 v9\ndeliver 0\n", zeros(12)+"holders 1\nregister 1 v9\ngood\n")
	plays(t, "it writes nothing", hold+"put 1 -\ndeliver 0\n", zeros(12)+"holders 1\nregister 1 -\ngood\n")
	plays(t, "it is lost", hold+"crash 1\nrestart 1\n", zeros(12)+"holders\nregister 0 -\ngood\n")
	permits := "world 4 loose\n"
	for n := range 4 {
		permits += fmt.Sprint("start ", n, " permit a 4 -\n") + trips(n, 3)
	}
	plays(t, "four hold", permits, zeros(40)+"holders 0 1 2 3\nregister 0 -\ngood\n")
	plays(t, "two of them crash", permits+"crash 0\ncrash 2\n", zeros(42)+"holders 1 3\nregister 0 -\ngood\n")
}

// P24.5: what no script comes to.
func TestTheLastLines(t *testing.T) {
	for value, want := range map[string]string{
		"": "register 7 -", "v1": "register 7 v1", "-": "register 7 ?", "?": "register 7 ?", "A": "register 7 ?", "a b": "register 7 ?", "\n": "register 7 ?", "é": "register 7 ?", "\xff": "register 7 ?",
		strings.Repeat("v", 20): "register 7 " + strings.Repeat("v", 20), strings.Repeat("v", 21): "register 7 ?",
	} {
		if got := register(api.Resource{High: 7, Value: value}); got != want {
			t.Errorf("P24.5: of %q it is %q", value, got)
		}
	}
	w, _ := world.New(1, true)
	ticks := make([]api.Move, 12)
	if got := verdict(w, ticks); got != "good" {
		t.Errorf("P24.5: it is %q", got)
	}
	forged, e := fence.Write(api.Resource{}, 1, 1, "v")
	if e != api.OK {
		t.Fatal(e)
	}
	w.Res = forged
	if got := verdict(w, ticks); got != "breach 0" {
		t.Errorf("P24.5: it is %q", got)
	}
	// A write that nobody was granted is on its way.
	mutex := "world 2 strict\nstart 0 mutex a 0 -\n" + trips(0, 3) + "put 0 v"
	w, l, _, _ := Read(mutex)
	w, _ = world.Play(w, l)
	w.Marks = nil
	at := 11
	if got := verdict(w, append(ticks[:at:at], api.Move{Kind: api.Deliver})); got != "breach 11" {
		t.Errorf("P24.5: it is %q", got)
	}
}

// Examples 1 and 2 of the whole: one holds, and then the other.
func TestOneHoldsAndThenTheOther(t *testing.T) {
	one := "world 2 strict\nstart 0 mutex a 0 -\nstart 1 mutex a 0 -\n" + trips(0, 3)
	ends(t, "one holds", one, "holders 0\nregister 0 -\ngood\n")
	ends(t, "the other waits", one+trips(1, 6), "holders 0\nregister 0 -\ngood\n")
	ends(t, "one lets", one+trips(1, 4)+"release 0\n"+trips(0, 1), "holders\nregister 0 -\ngood\n")
	ends(t, "the other looks", one+trips(1, 4)+"release 0\n"+trips(0, 1)+trips(1, 2), "holders 1\nregister 0 -\ngood\n")
}

// Examples 5 and 6 of the whole: who is paused for its lease is lost, and what it wrote is refused.
func TestWhoIsPausedIsLost(t *testing.T) {
	text := "world 2 strict\nstart 0 mutex a 0 -\n" + trips(0, 3) + "put 0 one\npause 0\n" + strings.Repeat("tick\n", 13) + "start 1 mutex a 0 -\n"
	// The late write stands first in the bag.
	for range 3 {
		text += "step 1\ndeliver 1\ndeliver 1\n"
	}
	ends(t, "the other one holds", text, "holders 1\nregister 0 -\ngood\n")
	text += "put 1 two\ndeliver 1\ndeliver 0\nresume 0\nstep 0\n"
	ends(t, "one is lost", text, "holders 1\nregister 3 two\ngood\n")
	ends(t, "it holds nothing", text+"put 0 three\nrelease 0\n", "5\n5\nholders 1\nregister 3 two\ngood\n")
}

// Example 7 of the whole: by a clock that stands still two hold, and the fence takes the later one's writes alone.
func TestAClockThatStandsStill(t *testing.T) {
	text := "world 2 loose\nstart 0 mutex a 0 -\nstart 1 mutex a 0 -\n" + trips(0, 3) + "put 0 old\ndeliver 0\n" + strings.Repeat("tick 64 0\n", 4) + trips(1, 3)
	ends(t, "two hold", text, "holders 0 1\nregister 1 old\ngood\n")
	ends(t, "both write", text+"put 1 new\ndeliver 0\nput 0 late\ndeliver 0\n", "holders 0 1\nregister 3 new\ngood\n")
}

// Example 8 of the whole: a party of three.
func TestAPartyOfThree(t *testing.T) {
	text := "world 3 strict\n"
	for n := range 3 {
		text += fmt.Sprint("start ", n, " party a 3 -\n") + trips(n, 4)
	}
	ends(t, "one raised the flag", text, "holders 2\nregister 0 -\ngood\n")
	text += trips(0, 2) + trips(1, 2)
	ends(t, "all hold", text, "holders 0 1 2\nregister 0 -\ngood\n")
	for n := range 3 {
		text += fmt.Sprint("release ", n, "\n") + trips(n, 2)
	}
	// Who left waits for all: only when all have gone it may do something else.
	busy := "start 0 mutex a 0 -\n"
	ends(t, "one waits for all", strings.Replace(text, "release 2\n", busy, 1), "11\n"+strings.Repeat("0\n5\n5\n", 2)+"holders 2\nregister 0 -\ngood\n")
	ends(t, "all have gone", text+trips(0, 1)+busy, zeros(4)+"holders\nregister 0 -\ngood\n")
}

// P24.6, P6: each text that can be read is played to a text whose last line is "good"; all of its other lines are as they are to be.
func TestWhatCanBeReadIsGood(t *testing.T) {
	count := map[string]int{}
	for seed := range 300 {
		random := rand.New(rand.NewSource(int64(seed)))
		text, nodes := script(random, seed)
		told, at, e := Play(text)
		if at != 0 || e != api.OK {
			t.Fatalf("P24.6: of seed %d it is %d, %d", seed, at, e)
		}
		w, moves, _, _ := Read(text)
		last, errs := world.Play(w, moves)
		lines := strings.Split(strings.TrimSuffix(told, "\n"), "\n")
		if len(w.Nodes) != nodes || len(lines) != len(moves)+3 || lines[len(moves)+2] != "good" {
			t.Fatalf("P24.6: of seed %d it ends with %q", seed, lines[max(0, len(lines)-3):])
		}
		for i, e := range errs {
			if lines[i] != strconv.Itoa(int(e)) {
				t.Fatalf("P24.5: of seed %d line %d is %q", seed, i, lines[i])
			}
			count[lines[i]]++
		}
		holders := world.Holders(last)
		if want := strings.TrimSuffix("holders "+strings.Trim(fmt.Sprint(holders), "[]"), " "); lines[len(moves)] != want {
			t.Fatalf("P24.5: of seed %d it is %q", seed, lines[len(moves)])
		}
		value := last.Res.Value
		if value == "" {
			value = "-"
		}
		if want := fmt.Sprint("register ", last.Res.High, " ", value); lines[len(moves)+1] != want {
			t.Fatalf("P24.5: of seed %d it is %q", seed, lines[len(moves)+1])
		}
		for _, m := range moves {
			w, _ = world.Do(w, m)
			a, _ := audit.Clash(w)
			count["clash"] += min(a+1, 1)
			count["holders"] += len(world.Holders(w))
		}
		count["tokens"] += len(fence.Tokens(last.Res))
	}
	// So much happened that it counts for something.
	for what, least := range map[string]int{"0": 50000, "1": 100, "5": 1000, "8": 100, "9": 20, "11": 1000, "clash": 50, "holders": 20000, "tokens": 200} {
		if count[what] < least {
			t.Errorf("of %q there were %d", what, count[what])
		}
	}
}

// script is a text of moves at random, and how many clients it has.
func script(random *rand.Rand, seed int) (string, int) {
	nodes := 1 + seed/2%4
	text := fmt.Sprint("world ", nodes, " ", []string{"strict", "loose"}[seed%2], "\n")
	one := []string{"mutex", "writer", "leader", "permit", "reader", "party", "enqueue", "dequeue"}
	for range 400 {
		n := random.Intn(nodes)
		if random.Intn(20) == 0 {
			n = random.Intn(9)
		}
		switch at := random.Intn(100); {
		case at < 8:
			text += "tick"
			for range random.Intn(10) {
				text += fmt.Sprint(" ", []int{15, 16, 17, 0, 64, 9999999}[random.Intn(6)])
			}
			text += "\n"
		case at < 50:
			// One goes on, and is told, as a rule.
			text += fmt.Sprint("step ", n, "\ndeliver 0\ndeliver 0\n")
		case at < 60:
			text += fmt.Sprint("deliver ", random.Intn(16), "\n")
		case at < 72:
			text += fmt.Sprint("start ", n, " ", one[random.Intn(seed%8+1)], " ", []string{"a", "b"}[random.Intn(9)/8], " ", random.Intn(4), " ", []string{"-", "v"}[random.Intn(2)], "\n")
		case at < 78:
			text += fmt.Sprint("put ", n, " ", []string{"-", "w", "x9"}[random.Intn(3)], "\n")
		case at < 81:
			text += fmt.Sprint("tell ", n, " ", random.Intn(99), "\n")
		case at < 82:
			text += fmt.Sprint("shrink ", random.Intn(40), "\n")
		default:
			rest := []string{"step", "step", "deliver", "drop", "copy", "copy", "release", "release", "pause", "resume", "resume", "crash", "restart", "restart"}
			text += fmt.Sprint(rest[random.Intn(len(rest))], " ", n, "\n")
		}
	}
	return text, nodes
}

// R6: the same again, it is the same; R5: what is handed in is not changed.
func TestNothingIsChanged(t *testing.T) {
	text, _ := script(rand.New(rand.NewSource(6)), 6)
	a, _, _ := Play(text)
	b, _, _ := Play(text)
	if a != b {
		t.Errorf("it is %q, and then %q", a, b)
	}
	w, l, _, _ := Read("world 2 strict\ntick 15 17\ntick 16 16")
	x, y, _, _ := Read("world 2 strict\ntick 15 17\ntick 16 16")
	l[0].By[0], w.Nodes[0].Clock = 99, 99
	l[0].By = append(l[0].By, 99)
	if y[0].By[0] != 15 || x.Nodes[0].Clock != 0 || l[1].By[0] != 16 {
		t.Errorf("it is %v, %v", x, y)
	}
	m := api.Move{Kind: api.Tick, By: slices.Grow([]int{15, 17}, 9)}
	if line, is := Print(m); !is || line != "tick 15 17" || !slices.Equal(m.By, []int{15, 17}) || m.By[:3][2] != 0 {
		t.Errorf("it is %q, and %v", line, m)
	}
}

// R1: bytes of any kind are no reason to panic; and names, as they are in scripts, are names.
func TestNothingPanics(t *testing.T) {
	random := rand.New(rand.NewSource(1))
	for range 3000 {
		letters := "world 1 strict\n\n  tick0-\x00\xff\xc3é"
		b := make([]byte, random.Intn(60))
		for i := range b {
			b[i] = letters[random.Intn(len(letters))]
		}
		for _, s := range []string{string(b), "world 1 strict\n" + string(b), "tick " + string(b), "start 0 " + string(b)} {
			Number(s)
			Parse(s)
			Read(s)
			Play(s)
			Print(api.Move{Kind: api.Put, Value: s})
			Print(api.Move{Kind: api.Start, Mach: api.Machine{Kind: 1, Name: s, Value: s}})
			if m, is := Parse("start 0 mutex " + s + " 0 -"); is && !key.Name(m.Mach.Name) {
				t.Errorf("P24.2: %q is a name", m.Mach.Name)
			}
		}
	}
	Parse(strings.Repeat(" ", 1<<16))
	Parse("tick" + strings.Repeat(" 1", 1<<16))
	Number(strings.Repeat("1", 1<<16))
	Read(strings.Repeat("\n", 1<<16))
	Play("world 1 strict" + strings.Repeat("\ntick", 1<<12))
}
