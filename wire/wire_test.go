package wire

import (
	"encoding/binary"
	"math"
	"math/rand"
	"reflect"
	"strings"
	"testing"

	"baton/api"
)

const most = 1<<40 - 1

var long = strings.Repeat("\x00\xffk", 14)

var wrongNumbers = []int{-1, most + 1, math.MinInt, math.MaxInt}

// fullReq is a request with something of its own in each field, and its lists as long as they may be.
func fullReq() api.Req {
	r := api.Req{
		Kind: api.Change, Who: 300, Seq: 2, Once: true, Key: "key", Value: "value",
		Lease: 4, Rev: 128, TTL: 6, Token: most,
	}
	for i := range api.MaxList {
		r.Txn.If = append(r.Txn.If, api.Cmp{Key: long[:i], What: i%4 + 1, How: i%3 + 1, N: 1000 * i, Value: "n"})
		r.Txn.Then = append(r.Txn.Then, api.Mut{Key: long[:i+10], Value: "then", Lease: i})
		r.Txn.Else = append(r.Txn.Else, api.Mut{Gone: i%2 == 0, Key: long[:i], Value: "else", Lease: 7 * i})
	}
	return r
}

// fullReply is a reply with something of its own in each field, and its lists as long as they may be.
func fullReply() api.Reply {
	r := api.Reply{Code: api.ErrOld, Who: 300, Seq: 2, Rev: 128, Lease: 4, TTL: 5, Yes: true}
	for i := range api.MaxKeys {
		x := api.KV{Key: long[:i], Value: long[:i/2], Create: i, Mod: 100 * i, Version: 10000 * i, Lease: most - i}
		r.KVs = append(r.KVs, x)
		x.Key = "event"
		r.Events = append(r.Events, api.Event{Rev: 50 * i, Gone: i%2 == 1, KV: x})
	}
	return r
}

// plain is the bytes of v as the chapter's words tell them, its fields in their order.
func plain(b []byte, v reflect.Value) []byte {
	switch v.Kind() {
	case reflect.Int:
		return binary.AppendUvarint(b, uint64(v.Int()))
	case reflect.Bool:
		if v.Bool() {
			return append(b, 1)
		}
		return append(b, 0)
	case reflect.String:
		return append(binary.AppendUvarint(b, uint64(v.Len())), v.String()...)
	case reflect.Slice:
		b = binary.AppendUvarint(b, uint64(v.Len()))
		for i := range v.Len() {
			b = plain(b, v.Index(i))
		}
		return b
	}
	for i := range v.NumField() {
		b = plain(b, v.Field(i))
	}
	return b
}

// plainAsk and plainTell hang on nothing of the program, and take what may not be, too.
func plainAsk(r api.Req) string     { return string(plain([]byte{1}, reflect.ValueOf(r))) }
func plainTell(r api.Reply) string  { return string(plain([]byte{2}, reflect.ValueOf(r))) }
func sameReq(a, b api.Req) bool     { return plainAsk(a) == plainAsk(b) }
func sameReply(a, b api.Reply) bool { return plainTell(a) == plainTell(b) }

// holdAsk holds all that is promised of a request against whether it may be.
func holdAsk(t *testing.T, r api.Req, want bool) {
	t.Helper()
	s, is := Ask(r)
	if MayAsk(r) != want || is != want {
		t.Errorf("P3.1: MayAsk(%v) is %v, Ask tells %v, not %v", r, MayAsk(r), is, want)
	}
	asked, read := Asked(plainAsk(r))
	if want && (s != plainAsk(r) || !read || !sameReq(asked, r)) {
		t.Errorf("P3.2: of %v Ask is %q, not %q, and Asked of that is %v, %v", r, s, plainAsk(r), asked, read)
	}
	if !want && (s != "" || read || !reflect.DeepEqual(asked, api.Req{})) {
		t.Errorf("P3.2: of %v Ask is %q, and Asked of its bytes is %v, %v", r, s, asked, read)
	}
}

// holdTell holds all that is promised of a reply against whether it may be.
func holdTell(t *testing.T, r api.Reply, want bool) {
	t.Helper()
	s, is := Tell(r)
	if MayTell(r) != want || is != want {
		t.Errorf("P3.1: MayTell(%v) is %v, Tell tells %v, not %v", r, MayTell(r), is, want)
	}
	told, read := Told(plainTell(r))
	if want && (s != plainTell(r) || !read || !sameReply(told, r)) {
		t.Errorf("P3.3: of %v Tell is %q, not %q, and Told of that is %v, %v", r, s, plainTell(r), told, read)
	}
	if !want && (s != "" || read || !reflect.DeepEqual(told, api.Reply{})) {
		t.Errorf("P3.3: of %v Tell is %q, and Told of its bytes is %v, %v", r, s, told, read)
	}
}

// P3.1, P3.2
func TestNumbersOfARequest(t *testing.T) {
	fields := map[string]func(*api.Req) *int{
		"Who":        func(r *api.Req) *int { return &r.Who },
		"Seq":        func(r *api.Req) *int { return &r.Seq },
		"Lease":      func(r *api.Req) *int { return &r.Lease },
		"Rev":        func(r *api.Req) *int { return &r.Rev },
		"TTL":        func(r *api.Req) *int { return &r.TTL },
		"Token":      func(r *api.Req) *int { return &r.Token },
		"If N":       func(r *api.Req) *int { return &r.Txn.If[3].N },
		"Then Lease": func(r *api.Req) *int { return &r.Txn.Then[3].Lease },
		"Else Lease": func(r *api.Req) *int { return &r.Txn.Else[3].Lease },
	}
	for name, field := range fields {
		for _, n := range []int{0, 1, 127, 128, 1 << 35, most - 1, most} {
			r := fullReq()
			*field(&r) = n
			holdAsk(t, r, true)
		}
		for _, n := range wrongNumbers {
			r := fullReq()
			*field(&r) = n
			holdAsk(t, r, false)
		}
		if t.Failed() {
			t.Fatalf("it is %s", name)
		}
	}
}

// P3.1, P3.2
func TestKindsOfARequest(t *testing.T) {
	for _, c := range []struct {
		field func(*api.Req) *int
		high  int
	}{
		{func(r *api.Req) *int { return &r.Kind }, 8},
		{func(r *api.Req) *int { return &r.Txn.If[0].What }, 4},
		{func(r *api.Req) *int { return &r.Txn.If[3].What }, 4},
		{func(r *api.Req) *int { return &r.Txn.If[0].How }, 3},
		{func(r *api.Req) *int { return &r.Txn.If[3].How }, 3},
	} {
		for n := 1; n <= c.high; n++ {
			r := fullReq()
			*c.field(&r) = n
			holdAsk(t, r, true)
		}
		for _, n := range append([]int{0, c.high + 1, 256 + 1, 1<<32 + 1}, wrongNumbers...) {
			r := fullReq()
			*c.field(&r) = n
			holdAsk(t, r, false)
		}
	}
}

// P3.1, P3.2
func TestTextsOfARequest(t *testing.T) {
	for _, c := range []struct {
		field func(*api.Req) *string
		most  int
	}{
		{func(r *api.Req) *string { return &r.Key }, 40},
		{func(r *api.Req) *string { return &r.Value }, 20},
		{func(r *api.Req) *string { return &r.Txn.If[3].Key }, 40},
		{func(r *api.Req) *string { return &r.Txn.If[3].Value }, 20},
		{func(r *api.Req) *string { return &r.Txn.Then[3].Key }, 40},
		{func(r *api.Req) *string { return &r.Txn.Then[3].Value }, 20},
		{func(r *api.Req) *string { return &r.Txn.Else[3].Key }, 40},
		{func(r *api.Req) *string { return &r.Txn.Else[3].Value }, 20},
	} {
		for n := range len(long) + 1 {
			r := fullReq()
			*c.field(&r) = long[:n]
			holdAsk(t, r, n <= c.most)
		}
		r := fullReq()
		*c.field(&r) = strings.Repeat("x", 300)
		holdAsk(t, r, false)
	}
}

// P3.1, P3.2
func TestListsOfARequest(t *testing.T) {
	for n := range 8 {
		for i := range 3 {
			r := fullReq()
			switch i {
			case 0:
				r.Txn.If = make([]api.Cmp, n)
				for j := range r.Txn.If {
					r.Txn.If[j].What, r.Txn.If[j].How = 1, 1
				}
			case 1:
				r.Txn.Then = make([]api.Mut, n)
			case 2:
				r.Txn.Else = make([]api.Mut, n)
			}
			holdAsk(t, r, n <= 4)
		}
	}
	r := fullReq()
	r.Txn.If[2] = api.Cmp{}
	holdAsk(t, r, false)
	holdAsk(t, api.Req{}, false)
	holdAsk(t, api.Req{Kind: api.Range}, true)
}

// P3.1, P3.3
func TestNumbersOfAReply(t *testing.T) {
	for _, field := range []func(*api.Reply) *int{
		func(r *api.Reply) *int { return &r.Who },
		func(r *api.Reply) *int { return &r.Seq },
		func(r *api.Reply) *int { return &r.Rev },
		func(r *api.Reply) *int { return &r.Lease },
		func(r *api.Reply) *int { return &r.TTL },
		func(r *api.Reply) *int { return &r.KVs[29].Create },
		func(r *api.Reply) *int { return &r.KVs[29].Mod },
		func(r *api.Reply) *int { return &r.KVs[29].Version },
		func(r *api.Reply) *int { return &r.KVs[29].Lease },
		func(r *api.Reply) *int { return &r.Events[29].Rev },
		func(r *api.Reply) *int { return &r.Events[29].KV.Create },
		func(r *api.Reply) *int { return &r.Events[29].KV.Mod },
		func(r *api.Reply) *int { return &r.Events[29].KV.Version },
		func(r *api.Reply) *int { return &r.Events[29].KV.Lease },
	} {
		for _, n := range []int{0, 1, 127, 128, 1 << 35, most - 1, most} {
			r := fullReply()
			*field(&r) = n
			holdTell(t, r, true)
		}
		for _, n := range wrongNumbers {
			r := fullReply()
			*field(&r) = n
			holdTell(t, r, false)
		}
	}
}

// P3.1, P3.3
func TestCodesOfAReply(t *testing.T) {
	for code := range 15 {
		r := fullReply()
		r.Code = api.Errno(code)
		holdTell(t, r, true)
	}
	for _, n := range append([]int{15, 256, 1 << 32}, wrongNumbers...) {
		r := fullReply()
		r.Code = api.Errno(n)
		holdTell(t, r, false)
	}
}

// P3.1, P3.3
func TestTextsOfAReply(t *testing.T) {
	for _, c := range []struct {
		field func(*api.Reply) *string
		most  int
	}{
		{func(r *api.Reply) *string { return &r.KVs[29].Key }, 40},
		{func(r *api.Reply) *string { return &r.KVs[29].Value }, 20},
		{func(r *api.Reply) *string { return &r.Events[29].KV.Key }, 40},
		{func(r *api.Reply) *string { return &r.Events[29].KV.Value }, 20},
	} {
		for n := range len(long) + 1 {
			r := fullReply()
			*c.field(&r) = long[:n]
			holdTell(t, r, n <= c.most)
		}
	}
}

// P3.1, P3.3
func TestListsOfAReply(t *testing.T) {
	for n := range 40 {
		r := fullReply()
		r.KVs = make([]api.KV, n)
		holdTell(t, r, n <= 30)
		r = fullReply()
		r.Events = make([]api.Event, n)
		holdTell(t, r, n <= 30)
	}
	holdTell(t, api.Reply{}, true)
}

// P3.2, P3.3: the bytes, written out.
func TestBytes(t *testing.T) {
	for i, c := range []struct {
		r    api.Req
		want string
	}{
		{api.Req{Kind: api.Range, Seq: 1, Key: "a"}, "\x01\x01\x00\x01\x00\x01a\x00\x00\x00\x00\x00\x00\x00\x00"},
		{
			api.Req{Kind: 8, Who: 2, Seq: 3, Once: true, Key: "k", Value: "vw", Lease: 4, Rev: 5, TTL: 6, Token: 300},
			"\x01\x08\x02\x03\x01\x01k\x02vw\x04\x05\x06\xac\x02\x00\x00\x00",
		},
		{
			api.Req{Kind: 2, Txn: api.Txn{
				If:   []api.Cmp{{Key: "a", What: 4, How: 3, N: 5, Value: "x"}, {What: 1, How: 2}},
				Then: []api.Mut{{Key: "b", Value: "y", Lease: 3}},
				Else: []api.Mut{{Gone: true, Key: "c"}, {}},
			}},
			"\x01\x02\x00\x00\x00\x00\x00\x00\x00\x00\x00" +
				"\x02\x01a\x04\x03\x05\x01x\x00\x01\x02\x00\x00" +
				"\x01\x00\x01b\x01y\x03" +
				"\x02\x01\x01c\x00\x00\x00\x00\x00\x00",
		},
	} {
		if s, is := Ask(c.r); s != c.want || !is {
			t.Errorf("P3.2: case %d: %q, %v", i, s, is)
		}
		if r, is := Asked(c.want); !reflect.DeepEqual(r, c.r) || !is {
			t.Errorf("P3.2: case %d: %v, %v", i, r, is)
		}
	}
	for i, c := range []struct {
		r    api.Reply
		want string
	}{
		{api.Reply{}, "\x02\x00\x00\x00\x00\x00\x00\x00\x00\x00"},
		{
			api.Reply{
				Code: 14, Who: 1, Seq: 2, Rev: 3, Lease: 4, TTL: 5, Yes: true,
				KVs:    []api.KV{{Key: "k", Value: "v", Create: 6, Mod: 7, Version: 8, Lease: 9}},
				Events: []api.Event{{Rev: 10, Gone: true, KV: api.KV{Key: "z", Version: 11}}, {Rev: 128}},
			},
			"\x02\x0e\x01\x02\x03\x04\x05\x01" +
				"\x01\x01k\x01v\x06\x07\x08\x09" +
				"\x02\x0a\x01\x01z\x00\x00\x00\x0b\x00\x80\x01\x00\x00\x00\x00\x00\x00\x00",
		},
	} {
		if s, is := Tell(c.r); s != c.want || !is {
			t.Errorf("P3.3: case %d: %q, %v", i, s, is)
		}
		if r, is := Told(c.want); !reflect.DeepEqual(r, c.r) || !is {
			t.Errorf("P3.3: case %d: %v, %v", i, r, is)
		}
	}
}

// P3.2, P3.3: a list that is empty is told as one that is nil.
func TestEmptyLists(t *testing.T) {
	s, _ := Ask(api.Req{Kind: 1, Txn: api.Txn{If: []api.Cmp{}, Then: []api.Mut{}, Else: []api.Mut{}}})
	if want, _ := Ask(api.Req{Kind: 1}); s != want {
		t.Errorf("it is %q, not %q", s, want)
	}
	s, _ = Tell(api.Reply{KVs: []api.KV{}, Events: []api.Event{}})
	if want, _ := Tell(api.Reply{}); s != want {
		t.Errorf("it is %q, not %q", s, want)
	}
}

// holdBytes holds that s is read only if it is what is written, and by one of the two at most.
func holdBytes(t *testing.T, s string) bool {
	t.Helper()
	r, asked := Asked(s)
	if again, is := Ask(r); asked && (again != s || !is) {
		t.Errorf("%q is read as %v, which is written %q, %v", s, r, again, is)
	}
	p, told := Told(s)
	if again, is := Tell(p); told && (again != s || !is) {
		t.Errorf("%q is read as %v, which is written %q, %v", s, p, again, is)
	}
	if !asked && !reflect.DeepEqual(r, api.Req{}) || !told && !reflect.DeepEqual(p, api.Reply{}) {
		t.Errorf("%q is nobody's, but read as %v, %v", s, r, p)
	}
	if asked && told {
		t.Errorf("%q is both a request's and a reply's", s)
	}
	return asked || told
}

// written is bytes of requests and of replies, small and great ones.
func written() []string {
	ask := func(r api.Req) string { s, _ := Ask(r); return s }
	tell := func(r api.Reply) string { s, _ := Tell(r); return s }
	few := fullReply()
	few.KVs, few.Events = few.KVs[25:27], few.Events[27:]
	return []string{
		ask(api.Req{Kind: 1}), ask(api.Req{Kind: 2}), ask(fullReq()),
		ask(api.Req{Kind: 1, Seq: 1, Key: "a"}), ask(api.Req{Kind: 8, Who: 300, Value: long[:20], Token: most}),
		tell(api.Reply{}), tell(api.Reply{Code: 1}), tell(fullReply()), tell(few),
	}
}

// P3.4
func TestWhatIsWrittenIsRead(t *testing.T) {
	for _, s := range written() {
		if s == "" || !holdBytes(t, s) {
			t.Errorf("%q is not read", s)
		}
	}
}

// P3.4
func TestBytesThatAreCutOrLongerAreNobodys(t *testing.T) {
	for _, s := range written() {
		for n := range len(s) {
			if holdBytes(t, s[:n]) {
				t.Errorf("%d of the bytes of %q are read", n, s)
			}
		}
		for _, behind := range []string{"\x00", "\x01", "\x80", "\xff", s} {
			if holdBytes(t, s+behind) {
				t.Errorf("%q with %q behind it is read", s, behind)
			}
		}
		for _, ahead := range []string{"\x00", "\x01", "\x02", "\x81\x00"} {
			if holdBytes(t, ahead+s) {
				t.Errorf("%q with %q ahead of it is read", s, ahead)
			}
		}
	}
}

// P3.4
func TestBytesThatAreSpoiltAreReadOnlyAsTheyAreWritten(t *testing.T) {
	read := 0
	for _, s := range written() {
		if len(s) > 1000 {
			continue // Too many to be spoilt one by one: a shorter one of its kind stands beside it.
		}
		for at := range len(s) {
			for c := range 256 {
				b := []byte(s)
				b[at] = byte(c)
				if holdBytes(t, string(b)) {
					read++
				}
			}
			holdBytes(t, s[:at]+s[at+1:])
			holdBytes(t, s[:at]+"\x80"+s[at:])
		}
	}
	if read == 0 {
		t.Error("nothing was read")
	}
}

// P3.4
func TestTheFirstByteTellsWhoseItIs(t *testing.T) {
	for c := range 256 {
		for _, s := range written() {
			b := []byte(s)
			b[0] = byte(c)
			_, asked := Asked(string(b))
			_, told := Told(string(b))
			if asked && c != 1 || told && c != 2 || b[0] == s[0] && !asked && !told {
				t.Errorf("%q is read: %v, %v", b, asked, told)
			}
		}
	}
}

// P3.4
func TestNumbersThatAreWrittenOtherwiseAreWrong(t *testing.T) {
	const behind = "\x00\x00\x00\x00\x00\x00\x00\x00\x00\x00"
	for _, seq := range []string{"\x00", "\x01", "\x7f", "\x80\x01", "\xff\xff\xff\xff\xff\x1f"} {
		if s := "\x01\x01\x00" + seq + behind; !holdBytes(t, s) {
			t.Errorf("%q is not read", s)
		}
	}
	for _, seq := range []string{
		"\x80\x00", "\x81\x00", "\xff\x80\x00", "\x80\x80\x80\x80\x80\x20", "\xff\xff\xff\xff\xff\x3f",
		"\x80\x80\x80\x80\x80\x80\x80\x80\x80\x01", "\xff\xff\xff\xff\xff\xff\xff\xff\xff\x01",
		"\xff\xff\xff\xff\xff\xff\xff\xff\xff\x02", "\x80\x80\x80\x80\x80\x80\x80\x80\x80\x80\x01",
	} {
		if s := "\x01\x01\x00" + seq + behind; holdBytes(t, s) {
			t.Errorf("%q is read", s)
		}
	}
}

// P3.4
func TestLengthsThatAreNotThereAreWrong(t *testing.T) {
	for _, n := range []uint64{1, 2, 5, 41, 128, most, most + 1, 1 << 62, 1<<63 - 1, 1 << 63, 1<<64 - 1} {
		length := string(binary.AppendUvarint(nil, n))
		for _, s := range []string{
			"\x01\x01\x00\x00\x00" + length,
			"\x01\x01\x00\x00\x00" + length + "\x00",
			"\x01\x01\x00\x00\x00\x00\x00\x00\x00\x00\x00" + length,
			"\x01\x01\x00\x00\x00\x00\x00\x00\x00\x00\x00" + length + "\x00\x00",
			"\x02\x00\x00\x00\x00\x00\x00\x00" + length,
			"\x02\x00\x00\x00\x00\x00\x00\x00" + length + "\x00",
			"\x02\x00\x00\x00\x00\x00\x00\x00\x00" + length,
		} {
			if holdBytes(t, s) {
				t.Errorf("%q is read", s)
			}
		}
	}
}

// P3.4: lists that are longer than they may be, all of their things there.
func TestLongListsAreWrong(t *testing.T) {
	for _, n := range []int{4, 5, 30, 31, 127, 200, 100000} {
		length := string(binary.AppendUvarint(nil, uint64(n)))
		for _, s := range []string{
			"\x01\x01\x00\x00\x00\x00\x00\x00\x00\x00\x00" + length + strings.Repeat("\x00\x01\x01\x00\x00", n) + "\x00\x00",
			"\x01\x01\x00\x00\x00\x00\x00\x00\x00\x00\x00\x00" + length + strings.Repeat("\x00\x00\x00\x00", n) + "\x00",
			"\x02\x00\x00\x00\x00\x00\x00\x00\x00" + length + strings.Repeat("\x00\x00\x00\x00\x00\x00\x00\x00", n),
		} {
			if got := holdBytes(t, s); got != (n <= 4 || n <= 30 && s[0] == 2) {
				t.Errorf("a list of %d things: %v", n, got)
			}
		}
	}
}

// P3.4
func TestBytesOfAnyKind(t *testing.T) {
	random := rand.New(rand.NewSource(3))
	for range 200000 {
		b := make([]byte, random.Intn(24))
		for i := range b {
			// Small ones are lengths that there are, and numbers that end.
			b[i] = byte(random.Intn(1 << (1 + random.Intn(8))))
		}
		if len(b) > 0 {
			b[0] = byte(1 + random.Intn(2))
		}
		holdBytes(t, string(b))
	}
}

// R5
func TestNothingThatIsHandedInIsChanged(t *testing.T) {
	r, p := fullReq(), fullReply()
	s, _ := Ask(r)
	u, _ := Tell(p)
	if !reflect.DeepEqual(r, fullReq()) || !reflect.DeepEqual(p, fullReply()) {
		t.Error("what was written was changed")
	}
	first, _ := Asked(s)
	first.Txn.If[0].Key, first.Txn.Then[0].Key, first.Txn.Else[0].Key = "changed", "changed", "changed"
	if again, _ := Asked(s); !sameReq(again, r) {
		t.Error("a request is read by what became of another answer")
	}
	told, _ := Told(u)
	told.KVs[0].Key, told.Events[0].KV.Key = "changed", "changed"
	if again, _ := Told(u); !sameReply(again, p) {
		t.Error("a reply is read by what became of another answer")
	}
}
