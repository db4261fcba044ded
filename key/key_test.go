package key

import (
	"fmt"
	"math"
	"slices"
	"strings"
	"testing"

	"baton/api"
)

// P2.1
func TestCheckAndNameOfEachByte(t *testing.T) {
	for c := range 256 {
		isKey := c >= 33 && c <= 126
		isName := strings.Contains("abcdefghijklmnopqrstuvwxyz0123456789", string([]byte{byte(c)}))
		for place := range 3 {
			b := []byte("aaa")
			b[place] = byte(c)
			if got := Check(string(b)); got != isKey {
				t.Errorf("Check(%q) is %v", b, got)
			}
			if got := Name(string(b)); got != isName {
				t.Errorf("Name(%q) is %v", b, got)
			}
		}
	}
}

// P2.1
func TestCheckAndNameOfEachLength(t *testing.T) {
	for n := range 100 {
		s := strings.Repeat("z", n)
		if got := Check(s); got != (n >= 1 && n <= 40) {
			t.Errorf("Check of %d bytes is %v", n, got)
		}
		if got := Name(s); got != (n >= 1 && n <= 12) {
			t.Errorf("Name of %d bytes is %v", n, got)
		}
	}
}

// P2.1
func TestLengthsAreOfBytes(t *testing.T) {
	// Letters of several bytes each, all of them above 126.
	for _, s := range []string{"é", "日", "a日"} {
		if Check(s) || Name(s) {
			t.Errorf("%q is a key or a name", s)
		}
	}
}

var kinds = []struct {
	kind   int
	letter string
}{
	{api.Mutex, "m"}, {api.Reader, "l"}, {api.Writer, "l"}, {api.Permit, "s"},
	{api.Leader, "e"}, {api.Party, "p"}, {api.Enqueue, "q"}, {api.Dequeue, "q"},
}

var wrongKinds = []int{0, -1, 9, 10, 256, 257, math.MinInt, math.MaxInt}

var wrongNames = []string{"", "A", "a/b", "a b", "a-", "/", "\x00", "abcdefghijklm", "é"}

// P2.2
func TestPrefix(t *testing.T) {
	for _, k := range kinds {
		for _, name := range []string{"a", "0", "zz9", "abcdefghijkl"} {
			want := k.letter + "/" + name + "/"
			if got, is := Prefix(k.kind, name); got != want || !is {
				t.Errorf("Prefix(%d, %q) is %q, %v", k.kind, name, got, is)
			}
		}
		for _, name := range wrongNames {
			if got, is := Prefix(k.kind, name); got != "" || is {
				t.Errorf("Prefix(%d, %q) is %q, %v", k.kind, name, got, is)
			}
		}
	}
	for _, kind := range wrongKinds {
		if got, is := Prefix(kind, "a"); got != "" || is {
			t.Errorf("Prefix of kind %d is %q, %v", kind, got, is)
		}
	}
}

var ids = []int{0, 1, 9, 10, 15, 16, 255, 256, 0xabcdef, 1 << 32, 0x123456789a, 1<<40 - 2, 1<<40 - 1}

// P2.3
func TestTicket(t *testing.T) {
	for _, k := range kinds {
		for _, id := range ids {
			want := fmt.Sprintf("%s/a1/%010x", k.letter, id)
			if got, is := Ticket(k.kind, "a1", id); got != want || !is {
				t.Errorf("Ticket(%d, a1, %d) is %q, %v, not %q", k.kind, id, got, is, want)
			}
		}
	}
	if got, is := Ticket(api.Mutex, "a", 255); got != "m/a/00000000ff" || !is {
		t.Errorf("the example's ticket is %q, %v", got, is)
	}
}

// P2.3
func TestTicketOfWhatIsWrong(t *testing.T) {
	wrong := func(kind int, name string, id int) {
		if got, is := Ticket(kind, name, id); got != "" || is {
			t.Errorf("Ticket(%d, %q, %d) is %q, %v", kind, name, id, got, is)
		}
	}
	for _, kind := range wrongKinds {
		wrong(kind, "a", 1)
	}
	for _, name := range wrongNames {
		wrong(api.Mutex, name, 1)
	}
	for _, id := range []int{-1, 1 << 40, 1<<40 + 1, math.MinInt, math.MaxInt} {
		wrong(api.Mutex, "a", id)
	}
}

// P2.3
func TestId(t *testing.T) {
	for _, prefix := range []string{"m/a/", "", "m/a/0", "\x00\xff", strings.Repeat("x", 100)} {
		for _, id := range ids {
			k := prefix + fmt.Sprintf("%010x", id)
			if got, is := Id(prefix, k); got != id || !is {
				t.Errorf("Id(%q, %q) is %d, %v", prefix, k, got, is)
			}
		}
	}
}

// P2.3
func TestIdOfWhatIsWrong(t *testing.T) {
	for _, c := range [][2]string{
		{"m/a/", ""},
		{"m/a/", "m/a"},
		{"m/a/", "m/a/"},
		{"m/a/", "l/a/00000000ff"},
		{"m/a/", "m/b/00000000ff"},
		{"m/a/", "xm/a/00000000ff"},
		{"m/a/", "m/a/0000000ff"},
		{"m/a/", "m/a/000000000ff"},
		{"m/a", "m/a/00000000ff"},
		{"m/a/0", "m/a/00000000ff"},
		{"m/a/", "m/a/00000000fF"},
		{"m/a/", "m/a/00000000FF"},
		{"m/a/", "m/a/00000000fg"},
		{"m/a/", "m/a/`000000001"},
		{"m/a/", "m/a/:000000001"},
		{"m/a/", "m/a//000000001"},
		{"m/a/", "m/a/ 000000001"},
		{"m/a/", "m/a/+000000001"},
		{"m/a/", "m/a/-000000001"},
		{"m/a/", "m/a/0x00000001"},
		{"m/a/", "m/a/0_00000001"},
		{"m/a/", "m/a/00000000\x00f"},
		{"m/a/", "m/a/00000000é"},
		{"p/a/", "p/a/open"},
		{"", ""},
		{"m/a/00000000ff", "m/a/00000000ff"},
		{"m/a/00000000ff0", "m/a/00000000ff"},
	} {
		if id, is := Id(c[0], c[1]); id != 0 || is {
			t.Errorf("Id(%q, %q) is %d, %v", c[0], c[1], id, is)
		}
	}
}

// P2.4
func TestFlag(t *testing.T) {
	for _, name := range []string{"a", "0", "abcdefghijkl"} {
		if got, is := Flag(name); got != "p/"+name+"/open" || !is {
			t.Errorf("Flag(%q) is %q, %v", name, got, is)
		}
	}
	for _, name := range wrongNames {
		if got, is := Flag(name); got != "" || is {
			t.Errorf("Flag(%q) is %q, %v", name, got, is)
		}
	}
}

// P2.4
func TestUnder(t *testing.T) {
	for _, c := range []struct {
		prefix, k string
		want      bool
	}{
		{"", "", false},
		{"", "a", true},
		{"a", "", false},
		{"a/", "a", false},
		{"a/", "a/", false},
		{"a/", "a/b", true},
		{"a/", "a//", true},
		{"a/", "ba/c", false},
		{"a/", "b/c", false},
		{"a/", "A/c", false},
		{"\xff", "\xff\x00", true},
	} {
		if got := Under(c.prefix, c.k); got != c.want {
			t.Errorf("Under(%q, %q) is %v", c.prefix, c.k, got)
		}
	}
}

// P2.5
func TestTicketsAreUnlikeUnlessTheirLettersAreNot(t *testing.T) {
	met := map[string]string{}
	for _, k := range kinds {
		for _, name := range []string{"a", "aa", "b", "00000000ff", "abcdefghijkl"} {
			for _, id := range ids {
				ticket, is := Ticket(k.kind, name, id)
				whose := fmt.Sprint(k.letter, " ", name, " ", id)
				if first, is := met[ticket]; is && first != whose {
					t.Errorf("%q is of %s and of %s", ticket, first, whose)
				}
				met[ticket] = whose
				prefix, _ := Prefix(k.kind, name)
				if !is || !Check(ticket) || !Under(prefix, ticket) {
					t.Errorf("%q of %s is no key under %q", ticket, whose, prefix)
				}
				if got, is := Id(prefix, ticket); got != id || !is {
					t.Errorf("%q is read as %d, %v, not %d", ticket, got, is, id)
				}
			}
		}
	}
}

// P2.5
func TestTicketsStandInTheOrderOfTheirIds(t *testing.T) {
	for _, k := range kinds {
		var tickets []string
		for _, id := range ids {
			ticket, _ := Ticket(k.kind, "abc", id)
			tickets = append(tickets, ticket)
		}
		if !slices.IsSorted(tickets) || len(slices.Compact(slices.Clone(tickets))) != len(ids) {
			t.Errorf("tickets do not rise: %q", tickets)
		}
	}
}

// P2.5
func TestFlagsAreNobodysTickets(t *testing.T) {
	flag, _ := Flag("abcdefghijkl")
	prefix, _ := Prefix(api.Party, "abcdefghijkl")
	if !Check(flag) || !Under(prefix, flag) {
		t.Errorf("%q is no key under %q", flag, prefix)
	}
	if id, is := Id(prefix, flag); is {
		t.Errorf("%q is the ticket of %d", flag, id)
	}
}
