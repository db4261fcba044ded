package sess

import (
	"math"
	"math/rand"
	"reflect"
	"testing"

	"baton/api"
	"baton/drift"
	"baton/lease"
)

const maxNumber = 1<<40 - 1

// P14.1
func TestBegin(t *testing.T) {
	for i, c := range []struct {
		sent  int
		p     api.Reply
		until int
		keep  int
	}{
		{100, api.Reply{Lease: 7, TTL: 34}, 130, 115}, {0, api.Reply{Lease: 7, TTL: 34}, 30, 15}, {1, api.Reply{Lease: 1, TTL: 34}, 31, 16},
		// What is safe, and half of it, are rounded down.
		{100, api.Reply{Lease: 7, TTL: 2}, 101, 100}, {100, api.Reply{Lease: 7, TTL: 3}, 102, 101}, {100, api.Reply{Lease: 7, TTL: 17}, 115, 107},
		{100, api.Reply{Lease: 7, TTL: 18}, 115, 107}, {100, api.Reply{Lease: 7, TTL: 19}, 116, 108}, {100, api.Reply{Lease: 7, TTL: 200}, 276, 188},
		{100, api.Reply{Lease: 7, TTL: 999}, 981, 540}, {100, api.Reply{Lease: 7, TTL: 1000}, 982, 541},
		{maxNumber - 1, api.Reply{Lease: 7, TTL: 34}, maxNumber + 29, maxNumber + 14}, {maxNumber, api.Reply{Lease: 7, TTL: 1000}, maxNumber + 882, maxNumber + 441},
		{5, api.Reply{Lease: maxNumber, TTL: 34}, 35, 20}, {5, api.Reply{Lease: maxNumber + 1, TTL: 34}, 35, 20}, {5, api.Reply{Lease: math.MaxInt, TTL: 34}, 35, 20},
		// Nothing else of the reply is asked.
		{100, api.Reply{Lease: 7, TTL: 34, Who: -1, Seq: math.MaxInt, Rev: -9, Yes: true, KVs: make([]api.KV, 99), Events: make([]api.Event, 99)}, 130, 115},
	} {
		want := api.Sess{Lease: c.p.Lease, TTL: c.p.TTL, Until: c.until, Keep: c.keep}
		if s, is := Begin(c.sent, c.p); s != want || !is {
			t.Errorf("case %d: %v, %v", i, s, is)
		}
	}
}

// P14.1: it lasts as long as is safe, of each TTL.
func TestBeginOfEachTTL(t *testing.T) {
	for ttl := -20; ttl < 1100; ttl++ {
		want, safe := api.Sess{}, 15*ttl/17
		if ttl >= 2 && ttl <= 1000 {
			want = api.Sess{Lease: 3, TTL: ttl, Until: 50 + safe, Keep: 50 + safe/2}
		}
		if s, is := Begin(50, api.Reply{Lease: 3, TTL: ttl}); s != want || is != (want.Lease == 3) {
			t.Errorf("of %d it is %v, %v", ttl, s, is)
		}
	}
}

// P14.1
func TestBeginOfWrongReplies(t *testing.T) {
	good := api.Reply{Lease: 7, TTL: 34}
	for i, c := range []struct {
		sent int
		p    api.Reply
	}{
		{100, api.Reply{}}, {100, api.Reply{TTL: 34}}, {100, api.Reply{Lease: 7}},
		{100, api.Reply{Lease: 0, TTL: 34}}, {100, api.Reply{Lease: -1, TTL: 34}}, {100, api.Reply{Lease: math.MinInt, TTL: 34}},
		{100, api.Reply{Lease: 7, TTL: 1}}, {100, api.Reply{Lease: 7, TTL: 0}}, {100, api.Reply{Lease: 7, TTL: -34}},
		{100, api.Reply{Lease: 7, TTL: 1001}}, {100, api.Reply{Lease: 7, TTL: math.MaxInt}}, {100, api.Reply{Lease: 7, TTL: math.MinInt}},
		{-1, good}, {-100, good}, {math.MinInt, good}, {maxNumber + 1, good}, {math.MaxInt, good},
	} {
		if s, is := Begin(c.sent, c.p); s != (api.Sess{}) || is {
			t.Errorf("case %d: %v, %v", i, s, is)
		}
	}
	for code := -2; code < 17; code++ {
		s, is := Begin(100, api.Reply{Code: api.Errno(code), Lease: 7, TTL: 34})
		if is != (code == 0) || is != (s != api.Sess{}) {
			t.Errorf("of code %d it is %v, %v", code, s, is)
		}
	}
}

// P14.2
func TestKept(t *testing.T) {
	s := api.Sess{Lease: 7, TTL: 34, Until: 130, Keep: 115}
	for i, c := range []struct {
		s     api.Sess
		sent  int
		p     api.Reply
		until int
		keep  int
	}{
		{s, 120, api.Reply{Lease: 7}, 150, 135}, {s, 101, api.Reply{Lease: 7}, 131, 116}, {s, 100, api.Reply{Lease: 7}, 130, 115},
		{s, 99, api.Reply{Lease: 7}, 130, 115}, {s, 0, api.Reply{Lease: 7}, 130, 115},
		// Behind its end, too: only when it was begun is asked.
		{s, 130, api.Reply{Lease: 7}, 160, 145}, {s, 5000, api.Reply{Lease: 7}, 5030, 5015}, {s, maxNumber, api.Reply{Lease: 7}, maxNumber + 30, maxNumber + 15},
		// Its own TTL tells what is safe, and nothing of the reply but its code and its lease is asked.
		{s, 120, api.Reply{Lease: 7, TTL: 99}, 150, 135}, {s, 120, api.Reply{Lease: 7, TTL: 1001}, 150, 135}, {s, 120, api.Reply{Lease: 7, TTL: -1, Who: -1, Seq: 9, Rev: 3, Yes: true}, 150, 135},
		{api.Sess{Lease: 7, TTL: 1000}, 10, api.Reply{Lease: 7, TTL: 2}, 892, 451}, {api.Sess{Lease: 7, TTL: 3, Until: 1}, 10, api.Reply{Lease: 7}, 12, 11},
		// Each of both by itself, if it is more.
		{api.Sess{Lease: 7, TTL: 34, Until: 150, Keep: 100}, 120, api.Reply{Lease: 7}, 150, 135}, {api.Sess{Lease: 7, TTL: 34, Until: 151, Keep: 134}, 120, api.Reply{Lease: 7}, 151, 135},
		{api.Sess{Lease: 7, TTL: 34, Until: 149, Keep: 135}, 120, api.Reply{Lease: 7}, 150, 135}, {api.Sess{Lease: 7, TTL: 34, Until: 100, Keep: 999}, 120, api.Reply{Lease: 7}, 150, 999},
		{api.Sess{Lease: 7, TTL: 34, Until: -9, Keep: -9}, 0, api.Reply{Lease: 7}, 30, 15},
		// Sessions that may not be: nothing is safe of a wrong TTL, and a lease is the reply's if it is the same.
		{api.Sess{Lease: 7, TTL: 1001}, 120, api.Reply{Lease: 7}, 120, 120}, {api.Sess{Lease: 7, TTL: 1, Until: 130}, 120, api.Reply{Lease: 7}, 130, 120},
		{api.Sess{Lease: -7, TTL: 34}, 120, api.Reply{Lease: -7}, 150, 135}, {api.Sess{}, 120, api.Reply{}, 120, 120},
	} {
		want := c.s
		want.Until, want.Keep = c.until, c.keep
		if got := Kept(c.s, c.sent, c.p); got != want {
			t.Errorf("case %d: %v, not %v", i, got, want)
		}
	}
}

// P14.2
func TestKeptOfWrongReplies(t *testing.T) {
	s := api.Sess{Lease: 7, TTL: 34, Until: 130, Keep: 115}
	for i, c := range []struct {
		sent int
		p    api.Reply
		want api.Sess
	}{
		{120, api.Reply{Lease: 8}, s}, {120, api.Reply{Lease: 6}, s}, {120, api.Reply{Lease: -7}, s}, {120, api.Reply{}, s}, {120, api.Reply{TTL: 34}, s},
		{-1, api.Reply{Lease: 7}, s}, {math.MinInt, api.Reply{Lease: 7}, s}, {maxNumber + 1, api.Reply{Lease: 7}, s}, {math.MaxInt, api.Reply{Lease: 7}, s},
		// A lease that is gone is asked ahead of all else.
		{120, api.Reply{Code: api.ErrLease, Lease: 7}, api.Sess{}}, {120, api.Reply{Code: api.ErrLease, Lease: 9}, api.Sess{}}, {120, api.Reply{Code: api.ErrLease}, api.Sess{}},
		{-1, api.Reply{Code: api.ErrLease}, api.Sess{}}, {maxNumber + 1, api.Reply{Code: api.ErrLease, Lease: 7}, api.Sess{}}, {0, api.Reply{Code: api.ErrLease, Lease: 7}, api.Sess{}},
	} {
		if got := Kept(s, c.sent, c.p); got != c.want {
			t.Errorf("case %d: %v", i, got)
		}
	}
	for code := -2; code < 17; code++ {
		want := s
		switch api.Errno(code) {
		case api.OK:
			want.Until, want.Keep = 150, 135
		case api.ErrLease:
			want = api.Sess{}
		}
		if got := Kept(s, 120, api.Reply{Code: api.Errno(code), Lease: 7}); got != want {
			t.Errorf("of code %d it is %v", code, got)
		}
	}
}

// P14.3
func TestAliveAndDue(t *testing.T) {
	s := api.Sess{Lease: 7, TTL: 34, Until: 130, Keep: 115}
	for i, c := range []struct {
		s     api.Sess
		now   int
		alive bool
		due   bool
	}{
		{s, math.MinInt, true, false}, {s, -1, true, false}, {s, 0, true, false}, {s, 100, true, false}, {s, 114, true, false},
		{s, 115, true, true}, {s, 116, true, true}, {s, 129, true, true}, {s, 130, false, false}, {s, 131, false, false}, {s, math.MaxInt, false, false},
		{api.Sess{}, 0, false, false}, {api.Sess{}, -1, false, false}, {api.Sess{TTL: 34, Until: 130, Keep: 115}, 120, false, false},
		{api.Sess{Until: math.MaxInt, Keep: math.MinInt}, 0, false, false},
		// Only a Lease of 0 is none.
		{api.Sess{Lease: -1, Until: 9, Keep: 5}, 4, true, false}, {api.Sess{Lease: -1, Until: 9, Keep: 5}, 8, true, true},
		{api.Sess{Lease: math.MinInt, Until: 9}, 8, true, true}, {api.Sess{Lease: 1, Until: 9}, 0, true, true}, {api.Sess{Lease: 1}, 0, false, false}, {api.Sess{Lease: 1}, -1, true, false},
		// To be kept it is only as long as it is alive.
		{api.Sess{Lease: 1, Until: 5, Keep: 9}, 4, true, false}, {api.Sess{Lease: 1, Until: 5, Keep: 9}, 9, false, false}, {api.Sess{Lease: 1, Until: 5, Keep: 5}, 5, false, false},
		{api.Sess{Lease: 1, Until: math.MaxInt, Keep: math.MaxInt}, math.MaxInt - 1, true, false}, {api.Sess{Lease: 1, Until: math.MinInt, Keep: math.MinInt}, math.MinInt, false, false},
	} {
		if alive, due := Alive(c.s, c.now), Due(c.s, c.now); alive != c.alive || due != c.due {
			t.Errorf("case %d: %v, %v", i, alive, due)
		}
	}
}

// P14.4
func TestAsksAndKeeps(t *testing.T) {
	for _, n := range []int{math.MinInt, -1, 0, 1, 50, 200, 1000, 1001, maxNumber, math.MaxInt} {
		if r := Asks(n); !reflect.DeepEqual(r, api.Req{Kind: 4, Once: true, TTL: n}) {
			t.Errorf("of TTL %d it is %v", n, r)
		}
		if r := Keeps(api.Sess{Lease: n, TTL: 34, Until: 130, Keep: 115}); !reflect.DeepEqual(r, api.Req{Kind: 5, Lease: n}) {
			t.Errorf("of lease %d it is %v", n, r)
		}
	}
}

// The chapter's example.
func TestSentAtAHundred(t *testing.T) {
	if s, is := Begin(100, api.Reply{Lease: 1, TTL: 34}); s.Until != 130 || s.Keep != 115 || !is {
		t.Errorf("it is %v, %v", s, is)
	}
}

// both is a client and a server, each with a clock of its own, and what is between them: from which tick on a reply may come.
type both struct {
	sess   api.Sess
	mine   int
	leases api.Leases
	theirs int
	onWay  []letter
}

// letter is a request, or a reply to one, that was begun at sent by the client's clock, on its way till a tick.
type letter struct {
	sent  int
	reply bool
	p     api.Reply
	till  int
}

// tick lets both clocks go on, and the server end what is over.
func (b *both) tick(my int, their int) {
	b.mine = drift.Run(b.mine, []int{my}, true)
	b.theirs = drift.Run(b.theirs, []int{their}, true)
	for _, id := range lease.Due(b.leases, b.theirs) {
		b.leases, _ = lease.End(b.leases, id)
	}
}

// bring brings what has come by now: a request is answered behind so many ticks more, a reply is heard.
func (b *both) bring(now int, more func() int) {
	var left []letter
	for _, l := range b.onWay {
		switch {
		case l.till > now:
			left = append(left, l)
		case l.reply:
			b.sess = Kept(b.sess, l.sent, l.p)
		default:
			l.p = api.Reply{Lease: 1}
			b.leases, l.p.TTL, l.p.Code = lease.Keep(b.leases, 1, b.theirs)
			l.reply, l.till = true, now+more()
			left = append(left, l)
		}
	}
	b.onWay = left
}

// P14.5: whatever both clocks do, and whenever replies come, or are lost, or are doubled, who is alive has its lease.
func TestWhoIsAliveHasItsLease(t *testing.T) {
	random := rand.New(rand.NewSource(14))
	lasted := 0
	for range 3000 {
		ttl := 2 + random.Intn(200)
		far := 1 + random.Intn(ttl/8+2)
		away := func() int { return random.Intn(far) }
		rate := rates(random)
		b := both{mine: random.Intn(100), theirs: random.Intn(100)}
		sent := b.mine
		for range away() {
			b.tick(rate())
		}
		var id int
		b.leases, id, _ = lease.Grant(api.Leases{}, ttl, b.theirs)
		for range away() {
			b.tick(rate())
		}
		b.sess, _ = Begin(sent, api.Reply{Lease: id, TTL: ttl})
		for now := range 60 {
			if Due(b.sess, b.mine) || random.Intn(3) == 0 {
				for range random.Intn(3) {
					b.onWay = append(b.onWay, letter{sent: b.mine, till: now + away()})
				}
			}
			b.bring(now, away)
			if Alive(b.sess, b.mine) {
				lasted++
				if !lease.Has(b.leases, id) {
					t.Fatalf("of TTL %d it is alive at %d, as %v, and its lease is over", ttl, b.mine, b.sess)
				}
			}
			b.tick(rate())
		}
	}
	if lasted < 10000 {
		t.Errorf("only %d times it was alive", lasted)
	}
}

// rates tells how two strict clocks go on: by any rates, or by those that are worst for who counts on a lease.
func rates(random *rand.Rand) func() (int, int) {
	if random.Intn(2) == 0 {
		return func() (int, int) { return 15, 17 }
	}
	return func() (int, int) { return 15 + random.Intn(3), 15 + random.Intn(3) }
}

// P14.5: what is counted on is as much as may be: a lease whose TTL 17 divides may be over just when its session is.
func TestASessionLastsAsLongAsItMay(t *testing.T) {
	for ttl := 17; ttl <= 1000; ttl += 17 {
		s, _ := Begin(0, api.Reply{Lease: 1, TTL: ttl})
		least, most := drift.Span(ttl / 17)
		if !Alive(s, least-1) || Alive(s, least) || most != ttl {
			t.Errorf("of %d it is %v", ttl, s)
		}
	}
}

// P14.5: nothing but the reply to a Keep that was begun later lets it last longer, and none lets it last shorter.
func TestOnlyALaterKeepLetsItLastLonger(t *testing.T) {
	random := rand.New(rand.NewSource(15))
	codes := []api.Errno{0, 0, 0, 0, api.ErrArg, api.ErrOld, api.ErrBusy, 99}
	for range 300 {
		latest := random.Intn(1000)
		ttl := 2 + random.Intn(999)
		s, is := Begin(latest, api.Reply{Lease: 2, TTL: ttl})
		for range 50 {
			sent := latest - 20 + random.Intn(40)
			p := api.Reply{Code: codes[random.Intn(len(codes))], Lease: 1 + random.Intn(3), TTL: random.Intn(1100)}
			if p.Code == api.OK && p.Lease == 2 && sent > latest {
				latest = sent
			}
			s = Kept(s, sent, p)
			safe := drift.Safe(ttl)
			if s != (api.Sess{Lease: 2, TTL: ttl, Until: latest + safe, Keep: latest + safe/2}) || !is {
				t.Fatalf("of TTL %d, kept at %d at last, it is %v", ttl, latest, s)
			}
		}
		if s = Kept(s, latest+1, api.Reply{Code: api.ErrLease, Lease: 2}); s != (api.Sess{}) || Alive(s, latest) {
			t.Fatalf("of no lease it is %v", s)
		}
	}
}

// R1: numbers from both ends are no reason to panic.
func TestNothingPanics(t *testing.T) {
	numbers := []int{math.MinInt, math.MinInt + 1, -1, 0, 1, 2, 1000, 1001, maxNumber, maxNumber + 1, math.MaxInt - 1, math.MaxInt}
	for _, a := range numbers {
		for _, b := range numbers {
			s := api.Sess{Lease: a, TTL: b, Until: a, Keep: b}
			Alive(s, a)
			Due(s, b)
			Keeps(s)
			for _, c := range numbers {
				p := api.Reply{Lease: b, TTL: c}
				Begin(a, p)
				Kept(s, c, p)
				Kept(api.Sess{Lease: b, TTL: a, Until: c, Keep: c}, a, p)
			}
		}
	}
}

// R5, R6: what is handed in is not changed, and the same again, the answer is the same.
func TestNothingIsChanged(t *testing.T) {
	reply := func() api.Reply {
		return api.Reply{Lease: 2, TTL: 50, KVs: []api.KV{{Key: "a"}}, Events: []api.Event{{Rev: 1}}}
	}
	p := reply()
	s, _ := Begin(9, p)
	again, _ := Begin(9, p)
	kept := Kept(s, 30, p)
	if s != again || kept != Kept(s, 30, p) || kept == s {
		t.Errorf("it is %v, %v, %v", s, again, kept)
	}
	if !reflect.DeepEqual(p, reply()) {
		t.Errorf("what was handed in is now %v", p)
	}
}
