package shift

import (
	"bytes"
	"encoding/binary"
	"math"
	"math/big"
	"strings"
	"testing"

	"baton/api"
)

// samples are numbers with their bits at all the places where a size begins or ends.
func samples() []uint64 {
	l := []uint64{0, 0xabcd, 0x0123456789abcdef, 0xfedcba9876543210, math.MaxUint64}
	for k := range 64 {
		one := uint64(1) << k
		l = append(l, one, one-1, one+1, ^one, 0xa5a5a5a5a5a5a5a5>>k)
	}
	return l
}

// rest is n by 2^k, what is left of it: told by division, where the program shifts.
func rest(n uint64, k int) *big.Int {
	whole := new(big.Int).Exp(big.NewInt(2), big.NewInt(int64(k)), nil)
	return whole.Mod(new(big.Int).SetUint64(n), whole)
}

// P1.1
func TestWideIsTheLowestBytes(t *testing.T) {
	for _, n := range samples() {
		all := binary.BigEndian.AppendUint64(nil, n)
		for width := 0; width <= 8; width++ {
			if got, want := Wide(n, width), string(all[8-width:]); got != want {
				t.Errorf("Wide(%d, %d) is %q, not %q", n, width, got, want)
			}
		}
	}
}

// P1.1
func TestWideOfWrongWidths(t *testing.T) {
	for _, width := range []int{-1, -8, 9, 64, math.MinInt, math.MaxInt} {
		if got := Wide(math.MaxUint64, width); got != "" {
			t.Errorf("Wide of width %d is %q", width, got)
		}
	}
}

// P1.1
func TestNarrow(t *testing.T) {
	for _, c := range []struct {
		s  string
		n  uint64
		is bool
	}{
		{"", 0, true},
		{"\x00", 0, true},
		{"\xff", 255, true},
		{"\x01\x02", 258, true},
		{"\x02\x01", 513, true},
		{"\x00\x00\x07", 7, true},
		{"\x80\x00\x00\x00\x00\x00\x00\x01", 1<<63 + 1, true},
		{strings.Repeat("\xff", 8), math.MaxUint64, true},
		{strings.Repeat("\xff", 9), 0, false},
		{strings.Repeat("\x00", 9), 0, false},
		{strings.Repeat("a", 1000), 0, false},
	} {
		if n, is := Narrow(c.s); n != c.n || is != c.is {
			t.Errorf("Narrow(%q) is %d, %v, not %d, %v", c.s, n, is, c.n, c.is)
		}
	}
}

// P1.2
func TestZig(t *testing.T) {
	for _, c := range []struct {
		n int64
		u uint64
	}{
		{0, 0}, {1, 2}, {-1, 1}, {2, 4}, {-2, 3}, {-3, 5},
		{math.MaxInt64, math.MaxUint64 - 1}, {math.MinInt64, math.MaxUint64},
	} {
		if u := Zig(c.n); u != c.u {
			t.Errorf("Zig(%d) is %d, not %d", c.n, u, c.u)
		}
		if n := Zag(c.u); n != c.n {
			t.Errorf("Zag(%d) is %d, not %d", c.u, n, c.n)
		}
	}
}

// P1.2
func TestZigIsAsItsSumsTell(t *testing.T) {
	for _, s := range samples() {
		n := int64(s)
		want := big.NewInt(n)
		want.Mul(want, big.NewInt(2))
		if n < 0 {
			want.Sub(want.Neg(want), big.NewInt(1))
		}
		if got := new(big.Int).SetUint64(Zig(n)); got.Cmp(want) != 0 {
			t.Errorf("Zig(%d) is %s, not %s", n, got, want)
		}
	}
}

// P1.3
func TestVar(t *testing.T) {
	for _, c := range []struct {
		n uint64
		s string
	}{
		{0, "\x00"},
		{1, "\x01"},
		{127, "\x7f"},
		{128, "\x80\x01"},
		{300, "\xac\x02"},
		{1<<14 - 1, "\xff\x7f"},
		{1 << 14, "\x80\x80\x01"},
		{1<<63 - 1, "\xff\xff\xff\xff\xff\xff\xff\xff\x7f"},
		{1 << 63, "\x80\x80\x80\x80\x80\x80\x80\x80\x80\x01"},
		{math.MaxUint64, "\xff\xff\xff\xff\xff\xff\xff\xff\xff\x01"},
	} {
		if s := Var(c.n); s != c.s {
			t.Errorf("Var(%d) is %q, not %q", c.n, s, c.s)
		}
	}
	for _, n := range samples() {
		if got, want := Var(n), string(binary.AppendUvarint(nil, n)); got != want {
			t.Errorf("Var(%d) is %q, not %q", n, got, want)
		}
	}
}

// P1.3
func TestReadGoesOnFromItsPlace(t *testing.T) {
	for _, n := range samples() {
		for _, ahead := range []string{"", "\x80", "abc", "\xff\xff"} {
			for _, behind := range []string{"", "\x00", "\x80\x80", "z"} {
				s := ahead + Var(n) + behind
				got, at, e := Read(s, len(ahead))
				if got != n || at != len(s)-len(behind) || e != api.OK {
					t.Errorf("Read(%q, %d) is %d, %d, %d, not %d", s, len(ahead), got, at, e, n)
				}
			}
		}
	}
}

// P1.3
func TestReadOfWhatIsWrong(t *testing.T) {
	nine := strings.Repeat("\xff", 9)
	for _, c := range []struct {
		s  string
		at int
		e  api.Errno
	}{
		{"", -1, api.ErrArg},
		{"", 1, api.ErrArg},
		{"\x01\x02", 3, api.ErrArg},
		{"\x01\x02", math.MaxInt, api.ErrArg},
		{"\x01\x02", math.MinInt, api.ErrArg},
		{"", 0, api.ErrCut},
		{"\x01\x02", 2, api.ErrCut},
		{"\x80", 0, api.ErrCut},
		{"\x01\xff\xff", 1, api.ErrCut},
		{nine, 0, api.ErrCut},
		{"\x80\x00", 0, api.ErrForm},
		{"\xff\x80\x00", 0, api.ErrForm},
		{"\xff\x00\x01", 0, api.ErrForm},
		{nine + "\x00", 0, api.ErrForm},
		{nine + "\x02", 0, api.ErrForm},
		{nine + "\x7f", 0, api.ErrForm},
		{nine + "\x80", 0, api.ErrForm},
		{nine + "\x81", 0, api.ErrForm},
		{nine + "\xff\x01", 0, api.ErrForm},
	} {
		if n, at, e := Read(c.s, c.at); n != 0 || at != 0 || e != c.e {
			t.Errorf("Read(%q, %d) is %d, %d, %d, not 0, 0, %d", c.s, c.at, n, at, e, c.e)
		}
	}
}

// P1.4
func TestLow(t *testing.T) {
	for _, n := range samples() {
		for k := 0; k <= 64; k++ {
			if got, want := Low(n, k), rest(n, k); new(big.Int).SetUint64(got).Cmp(want) != 0 {
				t.Errorf("Low(%d, %d) is %d, not %s", n, k, got, want)
			}
		}
		for _, k := range []int{-1, -64, math.MinInt} {
			if got := Low(n, k); got != 0 {
				t.Errorf("Low(%d, %d) is %d", n, k, got)
			}
		}
		for _, k := range []int{65, 128, math.MaxInt} {
			if got := Low(n, k); got != n {
				t.Errorf("Low(%d, %d) is %d", n, k, got)
			}
		}
	}
}

// P1.4
func TestSign(t *testing.T) {
	for _, n := range samples() {
		for k := 1; k <= 64; k++ {
			want := rest(n, k)
			if want.Bit(k-1) == 1 {
				want.Sub(want, new(big.Int).Exp(big.NewInt(2), big.NewInt(int64(k)), nil))
			}
			if got := Sign(n, k); big.NewInt(got).Cmp(want) != 0 {
				t.Errorf("Sign(%d, %d) is %d, not %s", n, k, got, want)
			}
		}
		for _, k := range []int{0, -1, 65, math.MinInt, math.MaxInt} {
			if got := Sign(n, k); got != 0 {
				t.Errorf("Sign(%d, %d) is %d", n, k, got)
			}
		}
	}
}

// P1.5
func TestWho(t *testing.T) {
	for node := range 16 {
		for _, life := range []int{0, 1, 2, 15, 16, 1 << 35, 1<<36 - 1} {
			who := Who(node, life)
			if who != 16*life+node {
				t.Errorf("Who(%d, %d) is %d", node, life, who)
			}
			if n, l := Whose(who); n != node || l != life {
				t.Errorf("Whose(%d) is %d, %d, not %d, %d", who, n, l, node, life)
			}
		}
	}
}

// P1.5
func TestWhoOfWrongNumbers(t *testing.T) {
	for _, c := range [][2]int{
		{-1, 0}, {16, 0}, {0, -1}, {0, 1 << 36}, {15, 1 << 36}, {-1, -1}, {16, 1 << 36},
		{math.MinInt, 0}, {math.MaxInt, 0}, {0, math.MinInt}, {0, math.MaxInt}, {1 << 40, 1},
	} {
		if who := Who(c[0], c[1]); who != -1 {
			t.Errorf("Who(%d, %d) is %d", c[0], c[1], who)
		}
	}
	for _, who := range []int{-1, -16, 1 << 40, 1<<40 + 5, math.MinInt, math.MaxInt} {
		if node, life := Whose(who); node != -1 || life != -1 {
			t.Errorf("Whose(%d) is %d, %d", who, node, life)
		}
	}
	if node, life := Whose(1<<40 - 1); node != 15 || life != 1<<36-1 {
		t.Errorf("the greatest one is of %d, %d", node, life)
	}
}

// P1.6
func TestWhatIsWrittenIsRead(t *testing.T) {
	for _, n := range samples() {
		if got, is := Narrow(Wide(n, 8)); got != n || !is {
			t.Errorf("%d as eight bytes is read as %d, %v", n, got, is)
		}
		if got := Zag(Zig(int64(n))); got != int64(n) {
			t.Errorf("Zag of Zig of %d is %d", int64(n), got)
		}
		if got := Zig(Zag(n)); got != n {
			t.Errorf("Zig of Zag of %d is %d", n, got)
		}
		if got, at, e := Read(Var(n), 0); got != n || at != len(Var(n)) || e != api.OK {
			t.Errorf("Var of %d is read as %d, %d, %d", n, got, at, e)
		}
	}
}

// P1.6
func TestThereIsOneWayToWrite(t *testing.T) {
	read := 0
	for length := 1; length <= 11; length++ {
		for _, first := range []byte{0, 1, 127, 128, 255} {
			for _, middle := range []byte{0, 1, 127, 128, 129, 255} {
				for last := range 256 {
					b := bytes.Repeat([]byte{middle}, length)
					b[0], b[length-1] = first, byte(last)
					s := string(b)
					n, at, e := Read(s, 0)
					if e != api.OK {
						continue
					}
					read++
					if Var(n) != s[:at] {
						t.Fatalf("%q is read as %d, of which Var is %q", s[:at], n, Var(n))
					}
				}
			}
		}
	}
	if read == 0 {
		t.Error("nothing could be read")
	}
}
