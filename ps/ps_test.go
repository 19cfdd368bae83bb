package ps

import (
	"math"
	"math/bits"
	"slices"
	"strings"
	"testing"

	"muezzin/api"
)

// endless stands, in what a test tells, for what is left of a period without end.
const endless = -1

// The calls that a test tells by number.
const (
	add     = iota // n is most
	del            // no n
	doze           // no n
	wake           // no n: Doze, of not on
	poll           // no n
	trigger        // n is the category
	more           // n is the category: Sent, there is more
	last           // n is the category: Sent, there is no more
	shut           // no n: Close
)

// The answers that a test tells by number.
const (
	ok = iota
	closed
	ofRange
	ofTwice
	ofNone
	ofState
	ofElse
)

// answerOf is the number of an answer.
func answerOf(is bool, err error) int {
	switch {
	case is && err != nil:
		return ofElse
	case is:
		return closed
	}
	if i := slices.Index([]error{nil, closed: api.ErrEnd, ofRange: api.ErrRange, ofTwice: api.ErrTwice, ofNone: api.ErrNone, ofState: api.ErrState}, err); i >= 0 && i != closed {
		return i
	}
	return ofElse
}

// set is categories that a text tells: "03" is the first one and the last one.
func set(uapsd string) (l [api.ACs]bool) {
	for _, c := range uapsd {
		l[c-'0'] = true
	}
	return l
}

// sets is all that may have uapsd.
func sets() (l []string) {
	for bit := range 16 {
		uapsd := ""
		for ac := range 4 {
			if bit>>ac&1 == 1 {
				uapsd += string(rune('0' + ac))
			}
		}
		l = append(l, uapsd)
	}
	return l
}

// do is one call, by its number; uapsd is asked by Add alone.
func do(p *Power, call, aid, n int, uapsd string) int {
	switch call {
	case add:
		return answerOf(false, p.Add(aid, set(uapsd), n))
	case del:
		p.Del(aid)
		return ok
	case poll:
		return answerOf(false, p.Poll(aid))
	case trigger:
		return answerOf(false, p.Trigger(aid, n))
	case more, last:
		return answerOf(p.Sent(aid, n, call == more))
	case shut:
		return answerOf(false, p.Close(aid))
	}
	return answerOf(false, p.Doze(aid, call == doze))
}

// noAids is what is no station's number.
func noAids() []int {
	l := []int{0, -1, -2, -16, -17, 17, 18, 32, 33, 255, 256, 257, 65537, api.MaxAID, math.MinInt, math.MinInt + 1, math.MaxInt}
	if one := 1; bits.UintSize == 64 {
		// A half of it would be one.
		l = append(l, one<<32+1)
	}
	return l
}

// noACs is what is no category.
func noACs() []int {
	l := []int{-1, -2, -3, -4, 4, 5, 7, 8, 255, 256, 257, 65536, math.MinInt, math.MinInt + 1, math.MaxInt}
	if one := 1; bits.UintSize == 64 {
		l = append(l, one<<32, one<<32+3)
	}
	return l
}

// noMosts is how many transmissions no period has.
func noMosts() []int {
	l := []int{-1, -2, -8, -9, 9, 10, 16, 255, 256, 257, 65536, math.MinInt, math.MinInt + 1, math.MaxInt}
	if one := 1; bits.UintSize == 64 {
		l = append(l, one<<32, one<<32+1)
	}
	return l
}

// view is all that can be told of a station: how it is ("" not there, "awake", "asleep", "polled": one frame is asked for,
// "period": one is open), of which categories something may go to it, which of them have uapsd, how many transmissions its
// periods have, if any of them has it, and how many are left of the one that is open.
type view struct {
	how        string
	may, uapsd string
	most, left int
}

// one is a station that is awake.
func one(uapsd string, most int) view {
	if uapsd == "" {
		// It can have no period of which this would be told.
		most = 0
	}
	return view{how: "awake", may: "0123", uapsd: uapsd, most: most}
}

// as is the same station where it is otherwise.
func (v view) as(how string) view {
	v.how, v.left = how, 0
	v.may = map[string]string{"awake": "0123", "asleep": "", "polled": "0123"}[how]
	return v
}

// in is the same station with a period of which so many transmissions are left.
func (v view) in(left int) view {
	v.how, v.may, v.left = "period", v.uapsd, left
	return v
}

// opened is the same station with a period that is new.
func (v view) opened() view {
	if v.most == 0 {
		return v.in(endless)
	}
	return v.in(v.most)
}

// ways is the station in each way in which it can be.
func (v view) ways() []view {
	l := []view{v.as("awake"), v.as("asleep"), v.as("polled")}
	for left := 1; left <= v.most; left++ {
		l = append(l, v.in(left))
	}
	if v.uapsd != "" && v.most == 0 {
		l = append(l, v.in(endless))
	}
	return l
}

// howIs asks how a station is, and that what tells it goes together.
func howIs(t *testing.T, p *Power, aid int) string {
	t.Helper()
	sleeps, asked := p.Asleep(aid), p.Polled(aid)
	there := p.Clone().Add(aid, set(""), 0) == api.ErrTwice
	open := p.Clone().Close(aid) == nil
	switch [4]bool{there, sleeps, asked, open} {
	case [4]bool{}:
		return ""
	case [4]bool{true}:
		return "awake"
	case [4]bool{true, true}:
		return "asleep"
	case [4]bool{true, true, true, false}:
		return "polled"
	case [4]bool{true, true, false, true}:
		return "period"
	}
	t.Fatalf("%d: there %v, asleep %v, polled %v, a period %v", aid, there, sleeps, asked, open)
	return ""
}

// mayBe asks of which categories something may go to a station.
func mayBe(t *testing.T, p *Power, aid int) (may string) {
	t.Helper()
	for _, ac := range noACs() {
		if p.May(aid, ac) {
			t.Fatalf("May(%d, %d)", aid, ac)
		}
	}
	for ac := range 4 {
		if p.May(aid, ac) {
			may += string(rune('0' + ac))
		}
	}
	return may
}

// count is how many transmissions a period still has; a copy is asked.
func count(t *testing.T, p *Power, aid, ac int) int {
	t.Helper()
	p = p.Clone()
	for n := 1; n < 20; n++ {
		switch answer := do(p, more, aid, ac, ""); answer {
		case closed:
			return n
		case ok:
		default:
			t.Fatalf("%d, of category %d: answer %d behind %d", aid, ac, answer, n-1)
		}
	}
	return endless
}

// tell is all of one station; what it asks by calls that change something, it asks copies.
func tell(t *testing.T, p *Power, aid int) view {
	t.Helper()
	v := view{how: howIs(t, p, aid), may: mayBe(t, p, aid)}
	if v.how == "" {
		return v
	}
	if v.how == "period" {
		v.left = count(t, p, aid, int(v.may[0]-'0'))
	}
	c := p.Clone()
	if c.Doze(aid, false) != nil || c.Doze(aid, true) != nil {
		t.Fatalf("%d is %s, and does not sleep", aid, v.how)
	}
	for ac := range 4 {
		d := c.Clone()
		if d.Trigger(aid, ac) != nil {
			continue
		}
		n := max(count(t, d, aid, ac), 0)
		if v.uapsd != "" && v.most != n {
			t.Fatalf("%d: a period of %d, and of %d", aid, v.most, n)
		}
		v.uapsd, v.most = v.uapsd+string(rune('0'+ac)), n
	}
	return v
}

// all is each station; of 0 none is.
type all [17]view

// but is all where one station is otherwise.
func (a all) but(aid int, v view) all {
	a[aid] = v
	return a
}

func tellAll(t *testing.T, p *Power) (a all) {
	t.Helper()
	for aid := range a {
		a[aid] = tell(t, p, aid)
	}
	return a
}

func mustBe(t *testing.T, p *Power, want all) {
	t.Helper()
	now := tellAll(t, p)
	for aid := range now {
		if now[aid] != want[aid] {
			t.Fatalf("%d is %v, not %v", aid, now[aid], want[aid])
		}
	}
}

// must makes a call, and asks its answer, how the station is behind it, and that the others are as they were.
func must(t *testing.T, p *Power, call, aid, n int, answer int, then view) {
	t.Helper()
	want := tellAll(t, p).but(aid, then)
	if a := do(p, call, aid, n, ""); a != answer {
		t.Fatalf("call %d of %d, %d: answer %d, not %d", call, aid, n, a, answer)
	}
	mustBe(t, p, want)
}

// mustRefuse makes a call that isn't taken, and asks that nothing changes.
func mustRefuse(t *testing.T, p *Power, call, aid, n int, uapsd string, answer int) {
	t.Helper()
	want := tellAll(t, p)
	if a := do(p, call, aid, n, uapsd); a != answer {
		t.Fatalf("call %d of %d, %d: answer %d, not %d", call, aid, n, a, answer)
	}
	mustBe(t, p, want)
}

// put takes in a station that is as it is told.
func put(t *testing.T, p *Power, aid int, v view) {
	t.Helper()
	calls := [][3]int{}
	switch v.how {
	case "asleep":
		calls = [][3]int{{doze}}
	case "polled":
		calls = [][3]int{{doze}, {poll}}
	case "period":
		ac := int(v.uapsd[0] - '0')
		calls = [][3]int{{doze}, {trigger, ac}}
		for range v.most - v.left {
			if v.left != endless {
				calls = append(calls, [3]int{more, ac})
			}
		}
	}
	answer := do(p, add, aid, v.most, v.uapsd)
	for _, x := range calls {
		answer = max(answer, do(p, x[0], aid, x[1], ""))
	}
	if now := tell(t, p, aid); answer != ok || now != v {
		t.Fatalf("%d is %v, not %v", aid, now, v)
	}
}

// some is nine stations, that are in all ways.
func some(t *testing.T) (*Power, all) {
	t.Helper()
	var p Power
	var want all
	for aid, v := range map[int]view{
		1:  one("03", 2),
		2:  one("0123", 8).as("asleep"),
		3:  one("", 0).as("polled"),
		7:  one("12", 0).in(endless),
		8:  one("", 0),
		9:  one("3", 2).in(1),
		12: one("13", 1).as("polled"),
		15: one("", 0).as("asleep"),
		16: one("0", 8).in(8),
	} {
		put(t, &p, aid, v)
		want = want.but(aid, v)
	}
	mustBe(t, &p, want)
	return &p, want
}

// busy is one with all stations, in turn in all ways.
func busy(t *testing.T) (*Power, all) {
	t.Helper()
	var p Power
	var want all
	for aid := 1; aid <= 16; aid++ {
		l := one(sets()[aid-1], aid%9).ways()
		put(t, &p, aid, l[aid%len(l)])
		want = want.but(aid, l[aid%len(l)])
	}
	mustBe(t, &p, want)
	return &p, want
}

// each goes through all stations that a test tells of, alone in their table, and beside others: of a few categories with
// uapsd and a few lengths of period, in each way in which they can be.
func each(t *testing.T, f func(p *Power, aid int, v view)) {
	t.Helper()
	for _, uapsd := range []string{"", "0", "3", "12", "0123"} {
		for _, most := range []int{0, 1, 2, 7, 8} {
			for _, v := range one(uapsd, most).ways() {
				for _, aid := range []int{1, 16} {
					var p Power
					put(t, &p, aid, v)
					f(&p, aid, v)
				}
				p, _ := some(t)
				put(t, p, 5, v)
				f(p, 5, v)
			}
		}
	}
}

// mustBeNone asks everything of what is no station.
func mustBeNone(t *testing.T, p *Power, aid int) {
	t.Helper()
	if p.Asleep(aid) || p.Polled(aid) || mayBe(t, p, aid) != "" {
		t.Fatalf("%d: %v, %v, %s", aid, p.Asleep(aid), p.Polled(aid), mayBe(t, p, aid))
	}
	for _, call := range []int{doze, wake, poll, shut} {
		if a := do(p, call, aid, 0, ""); a != ofNone {
			t.Fatalf("call %d of %d: answer %d", call, aid, a)
		}
	}
	for _, call := range []int{trigger, more, last} {
		for _, ac := range append(noACs(), 0, 1, 2, 3) {
			if a := do(p, call, aid, ac, ""); a != ofNone {
				t.Fatalf("call %d of %d, %d: answer %d", call, aid, ac, a)
			}
		}
	}
	p.Del(aid)
}

func TestZero(t *testing.T) {
	var p Power
	mustBe(t, &p, all{})
	mustBe(t, p.Clone(), all{})
	for _, aid := range append(noAids(), 1, 2, 3, 4, 5, 6, 7, 8, 9, 10, 11, 12, 13, 14, 15, 16) {
		mustBeNone(t, &p, aid)
	}
	mustBe(t, &p, all{})
}

// TestTwoOfThem: what one is told, another one does not know.
func TestTwoOfThem(t *testing.T) {
	p, want := some(t)
	var q Power
	mustBe(t, &q, all{})
	busy(t)
	mustBe(t, p, want)
}

// TestNone: who is not there, never was, or is there no more; beside others.
func TestNone(t *testing.T) {
	p1, want1 := some(t)
	p2, want2 := busy(t)
	for _, aid := range []int{1, 7, 16} {
		p2.Del(aid)
		want2 = want2.but(aid, view{})
	}
	for _, x := range []struct {
		p    *Power
		want all
		away []int
	}{
		{p1, want1, []int{4, 5, 6, 10, 11, 13, 14}},
		{p2, want2, []int{1, 7, 16}},
	} {
		for _, aid := range append(noAids(), x.away...) {
			mustBeNone(t, x.p, aid)
			mustBe(t, x.p, x.want)
		}
	}
}

// TestAdd: each station, of each set of categories and of each length of period, that is awake.
func TestAdd(t *testing.T) {
	for aid := 1; aid <= 16; aid++ {
		for _, uapsd := range sets() {
			for most := 0; most <= 8; most++ {
				var p Power
				if err := p.Add(aid, set(uapsd), most); err != nil {
					t.Fatal(aid, uapsd, most, err)
				}
				mustBe(t, &p, all{}.but(aid, one(uapsd, most)))
				if p.Asleep(aid) || p.Polled(aid) || !p.May(aid, 0) || !p.May(aid, 3) || p.Close(aid) != api.ErrState {
					t.Fatal(aid, uapsd, most)
				}
			}
		}
	}
	for _, aid := range []int{4, 5, 6, 10, 11, 13, 14} {
		for _, most := range []int{0, 1, 8} {
			p, want := some(t)
			if err := p.Add(aid, set("02"), most); err != nil {
				t.Fatal(aid, most, err)
			}
			mustBe(t, p, want.but(aid, one("02", most)))
		}
	}
}

// TestAddOutOfRange: of an aid, of a most, of both; where nobody is there, where some are, where all are: it is told ahead of
// that there is one.
func TestAddOutOfRange(t *testing.T) {
	p1, _ := some(t)
	p2, _ := busy(t)
	for _, p := range []*Power{new(Power), p1, p2} {
		for _, aid := range noAids() {
			for _, most := range append(noMosts(), 0, 1, 2, 7, 8) {
				mustRefuse(t, p, add, aid, most, "03", ofRange)
			}
		}
		for aid := 1; aid <= 16; aid++ {
			for _, most := range noMosts() {
				mustRefuse(t, p, add, aid, most, "03", ofRange)
			}
		}
	}
}

// TestAddTwice: it stays as it is, in each way, also of its categories and of its most.
func TestAddTwice(t *testing.T) {
	each(t, func(p *Power, aid int, v view) {
		for _, uapsd := range []string{"", "1", "0123"} {
			for _, most := range []int{0, 1, 3, 8} {
				mustRefuse(t, p, add, aid, most, uapsd, ofTwice)
			}
			for _, most := range []int{-1, 9} {
				mustRefuse(t, p, add, aid, most, uapsd, ofRange)
			}
		}
	})
}

// TestDel: of each way; then there is none, and the others are as they were.
func TestDel(t *testing.T) {
	each(t, func(p *Power, aid int, v view) {
		must(t, p, del, aid, 0, ok, view{})
		mustBeNone(t, p, aid)
		must(t, p, del, aid, 0, ok, view{})
	})
	p, want := some(t)
	for _, aid := range append(noAids(), 4, 5, 6, 10, 11, 13, 14) {
		p.Del(aid)
		mustBe(t, p, want)
	}
	for _, aid := range []int{1, 2, 3, 7, 8, 9, 12, 15, 16} {
		p.Del(aid)
		want = want.but(aid, view{})
		mustBe(t, p, want)
	}
	mustBe(t, p, all{})
}

// TestAddAgain: it is awake, of what it is told now; nothing is asked for, and no period is open, also when it sleeps.
func TestAddAgain(t *testing.T) {
	each(t, func(p *Power, aid int, v view) {
		for _, uapsd := range []string{"", "1", "023", "0123"} {
			for _, most := range []int{0, 3, 8} {
				q := p.Clone()
				q.Del(aid)
				if err := q.Add(aid, set(uapsd), most); err != nil {
					t.Fatal(err)
				}
				now := one(uapsd, most)
				mustBe(t, q, tellAll(t, p).but(aid, now))
				must(t, q, doze, aid, 0, ok, now.as("asleep"))
				must(t, q, more, aid, 3, ofState, now.as("asleep"))
				must(t, q, shut, aid, 0, ofState, now.as("asleep"))
			}
		}
	})
}

// TestDoze: it keeps what it asked for while it sleeps on, and forgets it when it wakes.
func TestDoze(t *testing.T) {
	each(t, func(p *Power, aid int, v view) {
		q := p.Clone()
		if v.how == "awake" {
			must(t, q, doze, aid, 0, ok, v.as("asleep"))
			must(t, p, wake, aid, 0, ok, v)
			return
		}
		must(t, q, doze, aid, 0, ok, v)
		must(t, q, doze, aid, 0, ok, v)
		must(t, q, wake, aid, 0, ok, v.as("awake"))
		must(t, q, wake, aid, 0, ok, v.as("awake"))
		must(t, q, doze, aid, 0, ok, v.as("asleep"))
		must(t, q, more, aid, 0, ofState, v.as("asleep"))
		must(t, q, shut, aid, 0, ofState, v.as("asleep"))
		// It asks anew, as if it never had.
		must(t, q, poll, aid, 0, ok, v.as("polled"))
		must(t, q, last, aid, 0, ok, v.as("asleep"))
		if v.uapsd != "" {
			must(t, q, trigger, aid, int(v.uapsd[0]-'0'), ok, v.opened())
		}
	})
}

// TestPoll: it asks for one, as often as it says so, if it sleeps and has no period.
func TestPoll(t *testing.T) {
	each(t, func(p *Power, aid int, v view) {
		switch v.how {
		case "awake", "period":
			mustRefuse(t, p, poll, aid, 0, "", ofState)
		default:
			for range 3 {
				must(t, p, poll, aid, 0, ok, v.as("polled"))
			}
			must(t, p, more, aid, 2, ok, v.as("asleep"))
			must(t, p, more, aid, 2, ofState, v.as("asleep"))
		}
	})
}

// TestTrigger: of each category, of each way.
func TestTrigger(t *testing.T) {
	each(t, func(p *Power, aid int, v view) {
		for _, ac := range noACs() {
			mustRefuse(t, p, trigger, aid, ac, "", ofRange)
		}
		for ac := range 4 {
			q := p.Clone()
			if v.how == "asleep" && set(v.uapsd)[ac] {
				must(t, q, trigger, aid, ac, ok, v.opened())
				must(t, q, trigger, aid, ac, ofState, v.opened())
			} else {
				mustRefuse(t, q, trigger, aid, ac, "", ofState)
			}
		}
	})
}

// TestTriggerOfEach: of each set of categories and each length.
func TestTriggerOfEach(t *testing.T) {
	for _, uapsd := range sets() {
		for most := 0; most <= 8; most++ {
			for ac := range 4 {
				v := one(uapsd, most).as("asleep")
				var p Power
				put(t, &p, 6, v)
				if strings.Contains(uapsd, string(rune('0'+ac))) {
					must(t, &p, trigger, 6, ac, ok, v.opened())
				} else {
					must(t, &p, trigger, 6, ac, ofState, v)
				}
			}
		}
	}
}

// TestMay: of each set of categories, one by one.
func TestMay(t *testing.T) {
	for _, uapsd := range sets() {
		for ac, has := range set(uapsd) {
			var p Power
			may := func(want bool) {
				t.Helper()
				if p.May(10, ac) != want || p.May(9, ac) || p.May(11, ac) || p.May(0, ac) || p.May(10, 4) || p.May(10, -1) {
					t.Fatal(uapsd, ac, p.May(10, ac))
				}
			}
			may(false)
			do(&p, add, 10, 3, uapsd)
			may(true)
			do(&p, doze, 10, 0, "")
			may(false)
			do(&p, poll, 10, 0, "")
			may(true)
			do(&p, last, 10, ac, "")
			may(false)
			if uapsd == "" {
				continue
			}
			do(&p, trigger, 10, int(uapsd[len(uapsd)-1]-'0'), "")
			may(has)
			do(&p, shut, 10, 0, "")
			may(false)
			do(&p, wake, 10, 0, "")
			may(true)
			do(&p, del, 10, 0, "")
			may(false)
		}
	}
}

// TestSentAwake: as much as comes, of each category; nothing changes.
func TestSentAwake(t *testing.T) {
	for _, uapsd := range sets() {
		for _, most := range []int{0, 1, 8} {
			var p Power
			v := one(uapsd, most)
			put(t, &p, 1, v)
			for n := range 40 {
				must(t, &p, []int{more, last}[n/4%2], 1, n%4, ok, v)
			}
		}
	}
}

// TestSentPolled: it is the one that was asked for, of each category, with more and without.
func TestSentPolled(t *testing.T) {
	for _, uapsd := range sets() {
		for _, call := range []int{more, last} {
			for ac := range 4 {
				var p Power
				v := one(uapsd, 1)
				put(t, &p, 16, v.as("polled"))
				must(t, &p, call, 16, ac, ok, v.as("asleep"))
				must(t, &p, call, 16, ac, ofState, v.as("asleep"))
				must(t, &p, poll, 16, 0, ok, v.as("polled"))
			}
		}
	}
}

// TestSentInPeriod: of each length and each set of categories: with more as many as it has, of which the last one closes it;
// without more each closes it.
func TestSentInPeriod(t *testing.T) {
	for _, uapsd := range sets()[1:] {
		for most := 1; most <= 8; most++ {
			var p Power
			v := one(uapsd, most)
			put(t, &p, 4, v.as("asleep"))
			for round := range 2 {
				must(t, &p, trigger, 4, int(uapsd[0]-'0'), ok, v.in(most))
				for left := most; left > 0; left-- {
					ac := int(uapsd[(left+round)%len(uapsd)] - '0')
					must(t, p.Clone(), last, 4, ac, closed, v.as("asleep"))
					if left == 1 {
						must(t, &p, more, 4, ac, closed, v.as("asleep"))
					} else {
						must(t, &p, more, 4, ac, ok, v.in(left-1))
					}
				}
				must(t, &p, more, 4, int(uapsd[0]-'0'), ofState, v.as("asleep"))
				must(t, &p, shut, 4, 0, ofState, v.as("asleep"))
			}
		}
	}
}

// TestSentBehindOneWithoutMore: what was left of a period that is closed is not there in the next one.
func TestSentBehindOneWithoutMore(t *testing.T) {
	for most := 1; most <= 8; most++ {
		for sent := range most {
			var p Power
			v := one("13", most)
			put(t, &p, 2, v.in(most-sent))
			must(t, &p, last, 2, 3, closed, v.as("asleep"))
			must(t, &p, trigger, 2, 1, ok, v.in(most))
		}
	}
}

// TestSentWithoutEnd: more than any period has, and more than small numbers count.
func TestSentWithoutEnd(t *testing.T) {
	for _, uapsd := range []string{"0", "3", "12", "0123"} {
		var p Power
		v := one(uapsd, 0)
		put(t, &p, 11, v.in(endless))
		for n := range 70000 {
			if is, err := p.Sent(11, int(uapsd[n%len(uapsd)]-'0'), true); is || err != nil {
				t.Fatal(uapsd, n, is, err)
			}
		}
		mustBe(t, &p, all{}.but(11, v.in(endless)))
		must(t, &p, last, 11, int(uapsd[0]-'0'), closed, v.as("asleep"))
		must(t, &p, more, 11, int(uapsd[0]-'0'), ofState, v.as("asleep"))
		must(t, &p, trigger, 11, int(uapsd[0]-'0'), ok, v.in(endless))
	}
}

// TestSentMayNot: of what it May not nothing is counted, with more or without; of what is no category neither, in each way.
func TestSentMayNot(t *testing.T) {
	each(t, func(p *Power, aid int, v view) {
		for _, call := range []int{more, last} {
			for _, ac := range noACs() {
				mustRefuse(t, p, call, aid, ac, "", ofRange)
			}
			for ac := range 4 {
				if v.how == "asleep" || v.how == "period" && !set(v.uapsd)[ac] {
					mustRefuse(t, p, call, aid, ac, "", ofState)
				}
			}
		}
	})
}

// TestClose: of each way; then it may be opened again, whole.
func TestClose(t *testing.T) {
	each(t, func(p *Power, aid int, v view) {
		if v.how != "period" {
			mustRefuse(t, p, shut, aid, 0, "", ofState)
			return
		}
		must(t, p, shut, aid, 0, ok, v.as("asleep"))
		must(t, p, shut, aid, 0, ofState, v.as("asleep"))
		must(t, p.Clone(), poll, aid, 0, ok, v.as("polled"))
		must(t, p, trigger, aid, int(v.uapsd[0]-'0'), ok, v.opened())
	})
}

// TestAsleepAndPolled: in each way, and of none.
func TestAsleepAndPolled(t *testing.T) {
	for how, want := range map[string][2]bool{"": {}, "awake": {}, "asleep": {true, false}, "polled": {true, true}, "period": {true, false}} {
		for aid := 1; aid <= 16; aid++ {
			var p Power
			switch how {
			case "":
			case "period":
				put(t, &p, aid, one("2", 1).in(1))
			default:
				put(t, &p, aid, one("2", 1).as(how))
			}
			for other := -1; other <= 18; other++ {
				is := [2]bool{p.Asleep(other), p.Polled(other)}
				if other == aid && is != want || other != aid && is != [2]bool{} {
					t.Error(how, aid, other, is)
				}
			}
		}
	}
}

// TestAsking changes nothing.
func TestAsking(t *testing.T) {
	p, want := some(t)
	for range 3 {
		for _, aid := range append(noAids(), 1, 2, 3, 4, 7, 9, 16) {
			p.Asleep(aid)
			p.Polled(aid)
			for _, ac := range append(noACs(), 0, 1, 2, 3) {
				p.May(aid, ac)
			}
			p.Clone()
		}
		mustBe(t, p, want)
	}
}

// TestUapsdStays: what was handed in may be written into.
func TestUapsdStays(t *testing.T) {
	var p Power
	uapsd := set("03")
	if err := p.Add(1, uapsd, 2); err != nil || uapsd != set("03") {
		t.Fatal(err, uapsd)
	}
	uapsd = set("12")
	mustBe(t, &p, all{}.but(1, one("03", 2)))
}

// TestClone: each call on one of the two is not to be seen on the other one.
func TestClone(t *testing.T) {
	for _, x := range []struct {
		call, aid, n, answer int
		then                 view
	}{
		{add, 4, 3, ok, one("", 3)},
		{add, 14, 0, ok, one("", 0)},
		{del, 1, 0, ok, view{}},
		{del, 3, 0, ok, view{}},
		{del, 16, 0, ok, view{}},
		{doze, 1, 0, ok, one("03", 2).as("asleep")},
		{wake, 2, 0, ok, one("0123", 8)},
		{wake, 3, 0, ok, one("", 0)},
		{wake, 9, 0, ok, one("3", 2)},
		{poll, 2, 0, ok, one("0123", 8).as("polled")},
		{poll, 15, 0, ok, one("", 0).as("polled")},
		{trigger, 2, 3, ok, one("0123", 8).in(8)},
		{more, 3, 1, ok, one("", 0).as("asleep")},
		{last, 7, 1, closed, one("12", 0).as("asleep")},
		{more, 9, 3, closed, one("3", 2).as("asleep")},
		{more, 16, 0, ok, one("0", 8).in(7)},
		{shut, 7, 0, ok, one("12", 0).as("asleep")},
		{shut, 16, 0, ok, one("0", 8).as("asleep")},
	} {
		for _, side := range []int{0, 1} {
			p, want := some(t)
			two := [2]*Power{p, p.Clone()}
			mustBe(t, two[1], want)
			must(t, two[side], x.call, x.aid, x.n, x.answer, x.then)
			mustBe(t, two[1-side], want)
			// What is told twice, and of a copy of a copy, is told the same.
			third := two[1-side].Clone()
			must(t, two[1-side], x.call, x.aid, x.n, x.answer, x.then)
			mustBe(t, two[side], want.but(x.aid, x.then))
			mustBe(t, third, want)
		}
	}
}

// TestOneNight: one station, call by call, beside another one that does none of it.
func TestOneNight(t *testing.T) {
	var p Power
	a, b := one("23", 2), one("0123", 2)
	put(t, &p, 1, a)
	put(t, &p, 2, b.in(1))
	for _, x := range []struct {
		call, n, answer int
		then            view
	}{
		{more, 0, ok, a},
		{poll, 0, ofState, a},
		{trigger, 3, ofState, a},
		{shut, 0, ofState, a},
		{doze, 0, ok, a.as("asleep")},
		{more, 3, ofState, a.as("asleep")},
		{trigger, 1, ofState, a.as("asleep")},
		{trigger, 2, ok, a.in(2)},
		{poll, 0, ofState, a.in(2)},
		{trigger, 3, ofState, a.in(2)},
		{more, 1, ofState, a.in(2)},
		{last, 1, ofState, a.in(2)},
		{more, 3, ok, a.in(1)},
		{doze, 0, ok, a.in(1)},
		{more, 2, closed, a.as("asleep")},
		{poll, 0, ok, a.as("polled")},
		{poll, 0, ok, a.as("polled")},
		{trigger, 2, ofState, a.as("polled")},
		{shut, 0, ofState, a.as("polled")},
		{more, 0, ok, a.as("asleep")},
		{last, 0, ofState, a.as("asleep")},
		{trigger, 3, ok, a.in(2)},
		{last, 3, closed, a.as("asleep")},
		{poll, 0, ok, a.as("polled")},
		{last, 3, ok, a.as("asleep")},
		{trigger, 3, ok, a.in(2)},
		{more, 2, ok, a.in(1)},
		{shut, 0, ok, a.as("asleep")},
		{trigger, 2, ok, a.in(2)},
		{wake, 0, ok, a},
		{last, 1, ok, a},
		{doze, 0, ok, a.as("asleep")},
		{shut, 0, ofState, a.as("asleep")},
		{poll, 0, ok, a.as("polled")},
		{wake, 0, ok, a},
		{doze, 0, ok, a.as("asleep")},
		{more, 2, ofState, a.as("asleep")},
		{del, 0, ok, view{}},
		{doze, 0, ofNone, view{}},
		{add, 1, ok, one("", 1)},
		{doze, 0, ok, one("", 1).as("asleep")},
		{trigger, 3, ofState, one("", 1).as("asleep")},
		{poll, 0, ok, one("", 1).as("polled")},
	} {
		must(t, &p, x.call, 1, x.n, x.answer, x.then)
	}
	mustBe(t, &p, all{}.but(1, one("", 1).as("polled")).but(2, b.in(1)))
}

// step is a call, what it answers, and what is told behind it: how all stations are, a letter each ('.' not there, 'w' awake,
// 's' asleep, 'q' one frame is asked for, 'p' a period is open), and of which categories something may go to the one that was
// named.
type step struct {
	call, aid, n int
	uapsd        string
	answer       int
	all, may     string
}

func letter(how string) string {
	return map[string]string{"": ".", "awake": "w", "asleep": "s", "polled": "q", "period": "p"}[how]
}

// mustGo goes through steps that were worked out apart from the program, from the chapter's words.
func mustGo(t *testing.T, steps []step) {
	t.Helper()
	var p Power
	for i, x := range steps {
		before := tellAll(t, &p)
		if a := do(&p, x.call, x.aid, x.n, x.uapsd); a != x.answer {
			t.Fatalf("step %d: answer %d, not %d", i, a, x.answer)
		}
		letters, may := "", mayBe(t, &p, x.aid)
		for aid, v := range tellAll(t, &p) {
			if aid > 0 {
				letters += letter(v.how)
			}
			if aid != x.aid && v != before[aid] {
				t.Fatalf("step %d, of %d: %d was %v, is %v", i, x.aid, aid, before[aid], v)
			}
		}
		if letters != x.all || may != x.may {
			t.Fatalf("step %d: is %s, %s, not %s, %s", i, letters, may, x.all, x.may)
		}
	}
}

// TestStepsOfAll: all sixteen come and go.
func TestStepsOfAll(t *testing.T) {
	mustGo(t, []step{
		{add, 6, 2, "01", ok, ".....w..........", "0123"},
		{add, 8, 2, "12", ok, ".....w.w........", "0123"},
		{poll, 2, 0, "", ofNone, ".....w.w........", ""},
		{add, 14, 10, "0", ofRange, ".....w.w........", ""},
		{shut, 3, 0, "", ofNone, ".....w.w........", ""},
		{add, 1, 2, "013", ok, "w....w.w........", "0123"},
		{add, 3, 8, "123", ok, "w.w..w.w........", "0123"},
		{shut, 11, 0, "", ofNone, "w.w..w.w........", ""},
		{add, 14, 8, "023", ok, "w.w..w.w.....w..", "0123"},
		{add, 0, 8, "13", ofRange, "w.w..w.w.....w..", ""},
		{poll, 6, 0, "", ofState, "w.w..w.w.....w..", "0123"},
		{del, 11, 0, "", ok, "w.w..w.w.....w..", ""},
		{add, 10, 10, "123", ofRange, "w.w..w.w.....w..", ""},
		{doze, 8, 0, "", ok, "w.w..w.s.....w..", ""},
		{del, 1, 0, "", ok, "..w..w.s.....w..", ""},
		{shut, 13, 0, "", ofNone, "..w..w.s.....w..", ""},
		{trigger, 8, 3, "", ofState, "..w..w.s.....w..", ""},
		{add, 16, 0, "23", ok, "..w..w.s.....w.w", "0123"},
		{add, 11, 1, "12", ok, "..w..w.s..w..w.w", "0123"},
		{shut, 0, 0, "", ofNone, "..w..w.s..w..w.w", ""},
		{shut, 12, 0, "", ofNone, "..w..w.s..w..w.w", ""},
		{add, 12, 3, "023", ok, "..w..w.s..ww.w.w", "0123"},
		{add, 1, 0, "012", ok, "w.w..w.s..ww.w.w", "0123"},
		{trigger, 13, 1, "", ofNone, "w.w..w.s..ww.w.w", ""},
		{add, 4, 0, "23", ok, "w.ww.w.s..ww.w.w", "0123"},
		{add, 10, 3, "0123", ok, "w.ww.w.s.www.w.w", "0123"},
		{add, 2, 0, "123", ok, "wwww.w.s.www.w.w", "0123"},
		{doze, 6, 0, "", ok, "wwww.s.s.www.w.w", ""},
		{del, 9, 0, "", ok, "wwww.s.s.www.w.w", ""},
		{doze, 11, 0, "", ok, "wwww.s.s.wsw.w.w", ""},
		{poll, 13, 0, "", ofNone, "wwww.s.s.wsw.w.w", ""},
		{del, 10, 0, "", ok, "wwww.s.s..sw.w.w", ""},
		{doze, 4, 0, "", ok, "wwws.s.s..sw.w.w", ""},
		{poll, 11, 0, "", ok, "wwws.s.s..qw.w.w", "0123"},
		{add, 10, 10, "023", ofRange, "wwws.s.s..qw.w.w", ""},
		{doze, 14, 0, "", ok, "wwws.s.s..qw.s.w", ""},
		{add, 3, 8, "13", ofTwice, "wwws.s.s..qw.s.w", "0123"},
		{add, 13, 1, "023", ok, "wwws.s.s..qwws.w", "0123"},
		{add, 13, 1, "012", ofTwice, "wwws.s.s..qwws.w", "0123"},
		{del, 2, 0, "", ok, "w.ws.s.s..qwws.w", ""},
		{doze, 12, 0, "", ok, "w.ws.s.s..qsws.w", ""},
		{trigger, 15, 2, "", ofNone, "w.ws.s.s..qsws.w", ""},
		{trigger, 16, 2, "", ofState, "w.ws.s.s..qsws.w", "0123"},
		{doze, 13, 0, "", ok, "w.ws.s.s..qsss.w", ""},
		{poll, 6, 0, "", ok, "w.ws.q.s..qsss.w", "0123"},
		{doze, 13, 0, "", ok, "w.ws.q.s..qsss.w", ""},
		{trigger, 4, 3, "", ok, "w.wp.q.s..qsss.w", "23"},
		{add, 7, 2, "0", ok, "w.wp.qws..qsss.w", "0123"},
		{poll, 8, 0, "", ok, "w.wp.qwq..qsss.w", "0123"},
		{last, 13, 2, "", ofState, "w.wp.qwq..qsss.w", ""},
		{doze, 9, 0, "", ofNone, "w.wp.qwq..qsss.w", ""},
		{trigger, 13, 1, "", ofState, "w.wp.qwq..qsss.w", ""},
		{more, 12, 5, "", ofRange, "w.wp.qwq..qsss.w", ""},
		{add, 15, 0, "13", ok, "w.wp.qwq..qsssww", "0123"},
		{doze, 1, 0, "", ok, "s.wp.qwq..qsssww", ""},
		{trigger, 14, 2, "", ok, "s.wp.qwq..qsspww", "023"},
		{add, 8, 3, "123", ofTwice, "s.wp.qwq..qsspww", "0123"},
		{del, 7, 0, "", ok, "s.wp.q.q..qsspww", ""},
		{wake, 16, 0, "", ok, "s.wp.q.q..qsspww", "0123"},
		{add, 5, 10, "03", ofRange, "s.wp.q.q..qsspww", ""},
		{more, 4, 2, "", ok, "s.wp.q.q..qsspww", "23"},
		{trigger, 16, 2, "", ofState, "s.wp.q.q..qsspww", "0123"},
		{poll, 9, 0, "", ofNone, "s.wp.q.q..qsspww", ""},
		{add, 7, 3, "023", ok, "s.wp.qwq..qsspww", "0123"},
		{add, 17, 3, "0", ofRange, "s.wp.qwq..qsspww", ""},
		{doze, 7, 0, "", ok, "s.wp.qsq..qsspww", ""},
		{add, 10, 2, "01", ok, "s.wp.qsq.wqsspww", "0123"},
		{shut, 6, 0, "", ofState, "s.wp.qsq.wqsspww", "0123"},
		{last, 14, 2, "", closed, "s.wp.qsq.wqsssww", ""},
		{poll, 12, 0, "", ok, "s.wp.qsq.wqqssww", "0123"},
		{more, 13, 0, "", ofState, "s.wp.qsq.wqqssww", ""},
		{trigger, 1, 2, "", ok, "p.wp.qsq.wqqssww", "012"},
		{doze, 10, 0, "", ok, "p.wp.qsq.sqqssww", ""},
		{doze, 14, 0, "", ok, "p.wp.qsq.sqqssww", ""},
		{doze, 16, 0, "", ok, "p.wp.qsq.sqqssws", ""},
		{more, 9, 3, "", ofNone, "p.wp.qsq.sqqssws", ""},
		{del, 16, 0, "", ok, "p.wp.qsq.sqqssw.", ""},
		{wake, 15, 0, "", ok, "p.wp.qsq.sqqssw.", "0123"},
		{doze, 15, 0, "", ok, "p.wp.qsq.sqqsss.", ""},
		{doze, 8, 0, "", ok, "p.wp.qsq.sqqsss.", "0123"},
		{add, 5, 8, "023", ok, "p.wpwqsq.sqqsss.", "0123"},
		{add, 16, 2, "123", ok, "p.wpwqsq.sqqsssw", "0123"},
		{trigger, 15, 2, "", ofState, "p.wpwqsq.sqqsssw", ""},
		{add, 9, 9, "1", ofRange, "p.wpwqsq.sqqsssw", ""},
		{more, 8, 2, "", ok, "p.wpwqss.sqqsssw", ""},
		{shut, 7, 0, "", ofState, "p.wpwqss.sqqsssw", ""},
		{poll, 7, 0, "", ok, "p.wpwqqs.sqqsssw", "0123"},
		{add, 0, 0, "02", ofRange, "p.wpwqqs.sqqsssw", ""},
		{more, 1, 2, "", ok, "p.wpwqqs.sqqsssw", "012"},
		{more, 12, 2, "", ok, "p.wpwqqs.sqssssw", ""},
		{poll, 15, 0, "", ok, "p.wpwqqs.sqsssqw", "0123"},
		{more, 15, 3, "", ok, "p.wpwqqs.sqssssw", ""},
		{doze, 3, 0, "", ok, "p.spwqqs.sqssssw", ""},
		{add, 17, -1, "023", ofRange, "p.spwqqs.sqssssw", ""},
		{doze, 5, 0, "", ok, "p.spsqqs.sqssssw", ""},
		{last, 6, 0, "", ok, "p.spssqs.sqssssw", ""},
		{last, 7, 3, "", ok, "p.spssss.sqssssw", ""},
		{add, 7, 0, "0", ofTwice, "p.spssss.sqssssw", ""},
		{shut, 14, 0, "", ofState, "p.spssss.sqssssw", ""},
		{trigger, 2, 3, "", ofNone, "p.spssss.sqssssw", ""},
		{poll, 3, 0, "", ok, "p.qpssss.sqssssw", "0123"},
		{doze, 16, 0, "", ok, "p.qpssss.sqsssss", ""},
		{shut, 10, 0, "", ofState, "p.qpssss.sqsssss", ""},
		{trigger, 9, 4, "", ofNone, "p.qpssss.sqsssss", ""},
		{more, 3, 2, "", ok, "p.spssss.sqsssss", ""},
		{trigger, 15, 2, "", ofState, "p.spssss.sqsssss", ""},
		{more, 4, 3, "", ok, "p.spssss.sqsssss", "23"},
		{add, 2, 8, "013", ok, "pwspssss.sqsssss", "0123"},
		{doze, 2, 0, "", ok, "psspssss.sqsssss", ""},
		{more, 0, 3, "", ofNone, "psspssss.sqsssss", ""},
		{last, 12, 3, "", ofState, "psspssss.sqsssss", ""},
		{shut, 6, 0, "", ofState, "psspssss.sqsssss", ""},
		{trigger, 5, 3, "", ok, "pssppsss.sqsssss", "023"},
		{poll, 3, 0, "", ok, "psqppsss.sqsssss", "0123"},
		{last, 10, 5, "", ofRange, "psqppsss.sqsssss", ""},
		{add, 9, 8, "123", ok, "psqppssswsqsssss", "0123"},
		{shut, 13, 0, "", ofState, "psqppssswsqsssss", ""},
		{wake, 7, 0, "", ok, "psqppswswsqsssss", "0123"},
		{poll, 13, 0, "", ok, "psqppswswsqsqsss", "0123"},
		{more, 5, 1, "", ofState, "psqppswswsqsqsss", "023"},
		{shut, 6, 0, "", ofState, "psqppswswsqsqsss", ""},
		{poll, 2, 0, "", ok, "pqqppswswsqsqsss", "0123"},
		{shut, 4, 0, "", ok, "pqqspswswsqsqsss", ""},
		{poll, 10, 0, "", ok, "pqqspswswqqsqsss", "0123"},
		{del, 14, 0, "", ok, "pqqspswswqqsq.ss", ""},
		{trigger, 4, 3, "", ok, "pqqppswswqqsq.ss", "23"},
		{wake, 9, 0, "", ok, "pqqppswswqqsq.ss", "0123"},
		{doze, 9, 0, "", ok, "pqqppswssqqsq.ss", ""},
		{more, 12, 0, "", ofState, "pqqppswssqqsq.ss", ""},
		{add, 17, 9, "23", ofRange, "pqqppswssqqsq.ss", ""},
		{poll, 8, 0, "", ok, "pqqppswqsqqsq.ss", "0123"},
		{trigger, 6, 1, "", ok, "pqqpppwqsqqsq.ss", "01"},
		{doze, 11, 0, "", ok, "pqqpppwqsqqsq.ss", "0123"},
		{poll, 13, 0, "", ok, "pqqpppwqsqqsq.ss", "0123"},
		{trigger, 2, 1, "", ofState, "pqqpppwqsqqsq.ss", "0123"},
		{doze, 7, 0, "", ok, "pqqpppsqsqqsq.ss", ""},
		{trigger, 15, 1, "", ok, "pqqpppsqsqqsq.ps", "13"},
		{wake, 2, 0, "", ok, "pwqpppsqsqqsq.ps", "0123"},
		{shut, 3, 0, "", ofState, "pwqpppsqsqqsq.ps", "0123"},
		{trigger, 16, 1, "", ok, "pwqpppsqsqqsq.pp", "123"},
		{last, 1, -1, "", ofRange, "pwqpppsqsqqsq.pp", "012"},
		{more, 15, 2, "", ofState, "pwqpppsqsqqsq.pp", "13"},
		{more, 15, 1, "", ok, "pwqpppsqsqqsq.pp", "13"},
		{more, 5, 2, "", ok, "pwqpppsqsqqsq.pp", "023"},
		{last, 4, 0, "", ofState, "pwqpppsqsqqsq.pp", "23"},
		{wake, 8, 0, "", ok, "pwqpppswsqqsq.pp", "0123"},
		{last, 10, 0, "", ok, "pwqpppswssqsq.pp", ""},
		{add, 11, 3, "0", ofTwice, "pwqpppswssqsq.pp", "0123"},
		{last, 6, 0, "", closed, "pwqppsswssqsq.pp", ""},
		{last, 16, 2, "", closed, "pwqppsswssqsq.ps", ""},
		{shut, 4, 0, "", ok, "pwqspsswssqsq.ps", ""},
		{shut, 3, 0, "", ofState, "pwqspsswssqsq.ps", "0123"},
		{add, 6, 8, "0", ofTwice, "pwqspsswssqsq.ps", ""},
		{more, 13, 3, "", ok, "pwqspsswssqss.ps", ""},
		{poll, 13, 0, "", ok, "pwqspsswssqsq.ps", "0123"},
		{add, 13, 1, "0123", ofTwice, "pwqspsswssqsq.ps", "0123"},
		{doze, 2, 0, "", ok, "psqspsswssqsq.ps", ""},
		{doze, 8, 0, "", ok, "psqspsssssqsq.ps", ""},
		{last, 11, 1, "", ok, "psqspsssssssq.ps", ""},
		{more, 3, 3, "", ok, "pssspsssssssq.ps", ""},
		{last, 6, 3, "", ofState, "pssspsssssssq.ps", ""},
		{trigger, 2, 1, "", ok, "ppsspsssssssq.ps", "013"},
		{more, 15, 1, "", ok, "ppsspsssssssq.ps", "13"},
		{poll, 6, 0, "", ok, "ppsspqssssssq.ps", "0123"},
		{more, 2, 3, "", ok, "ppsspqssssssq.ps", "013"},
		{last, 3, 0, "", ofState, "ppsspqssssssq.ps", ""},
		{add, 9, 3, "023", ofTwice, "ppsspqssssssq.ps", ""},
		{trigger, 16, 1, "", ok, "ppsspqssssssq.pp", "123"},
		{poll, 9, 0, "", ok, "ppsspqssqsssq.pp", "0123"},
		{shut, 9, 0, "", ofState, "ppsspqssqsssq.pp", "0123"},
		{shut, 14, 0, "", ofNone, "ppsspqssqsssq.pp", ""},
		{add, 14, 1, "02", ok, "ppsspqssqsssqwpp", "0123"},
		{more, 1, 0, "", ok, "ppsspqssqsssqwpp", "012"},
		{more, 16, 3, "", ok, "ppsspqssqsssqwpp", "123"},
		{add, 5, 0, "02", ofTwice, "ppsspqssqsssqwpp", "023"},
		{last, 16, 3, "", closed, "ppsspqssqsssqwps", ""},
		{poll, 16, 0, "", ok, "ppsspqssqsssqwpq", "0123"},
		{trigger, 8, 5, "", ofRange, "ppsspqssqsssqwpq", ""},
		{last, 13, 0, "", ok, "ppsspqssqsssswpq", ""},
		{poll, 3, 0, "", ok, "ppqspqssqsssswpq", "0123"},
		{more, 2, 3, "", ok, "ppqspqssqsssswpq", "013"},
		{more, 2, 3, "", ok, "ppqspqssqsssswpq", "013"},
		{last, 2, 3, "", closed, "psqspqssqsssswpq", ""},
		{poll, 3, 0, "", ok, "psqspqssqsssswpq", "0123"},
		{poll, 2, 0, "", ok, "pqqspqssqsssswpq", "0123"},
		{trigger, 10, 1, "", ok, "pqqspqssqpssswpq", "01"},
		{shut, 2, 0, "", ofState, "pqqspqssqpssswpq", "0123"},
		{shut, 6, 0, "", ofState, "pqqspqssqpssswpq", "0123"},
		{trigger, 8, 1, "", ok, "pqqspqspqpssswpq", "12"},
		{shut, 12, 0, "", ofState, "pqqspqspqpssswpq", ""},
		{del, 9, 0, "", ok, "pqqspqsp.pssswpq", ""},
		{poll, 11, 0, "", ok, "pqqspqsp.pqsswpq", "0123"},
		{poll, 17, 0, "", ofNone, "pqqspqsp.pqsswpq", ""},
		{trigger, 13, 2, "", ok, "pqqspqsp.pqspwpq", "023"},
		{poll, 3, 0, "", ok, "pqqspqsp.pqspwpq", "0123"},
		{del, 2, 0, "", ok, "p.qspqsp.pqspwpq", ""},
		{wake, 8, 0, "", ok, "p.qspqsw.pqspwpq", "0123"},
		{more, 7, 0, "", ofState, "p.qspqsw.pqspwpq", ""},
		{poll, 12, 0, "", ok, "p.qspqsw.pqqpwpq", "0123"},
		{more, 10, 1, "", ok, "p.qspqsw.pqqpwpq", "01"},
		{more, 11, 2, "", ok, "p.qspqsw.psqpwpq", ""},
		{wake, 14, 0, "", ok, "p.qspqsw.psqpwpq", "0123"},
		{trigger, 11, 2, "", ok, "p.qspqsw.ppqpwpq", "12"},
		{doze, 14, 0, "", ok, "p.qspqsw.ppqpspq", ""},
		{poll, 14, 0, "", ok, "p.qspqsw.ppqpqpq", "0123"},
		{last, 5, 0, "", closed, "p.qssqsw.ppqpqpq", ""},
		{doze, 14, 0, "", ok, "p.qssqsw.ppqpqpq", "0123"},
		{trigger, 4, 3, "", ok, "p.qpsqsw.ppqpqpq", "23"},
		{trigger, 6, 3, "", ofState, "p.qpsqsw.ppqpqpq", "0123"},
		{doze, 6, 0, "", ok, "p.qpsqsw.ppqpqpq", "0123"},
		{wake, 12, 0, "", ok, "p.qpsqsw.ppwpqpq", "0123"},
		{doze, 8, 0, "", ok, "p.qpsqss.ppwpqpq", ""},
		{shut, 8, 0, "", ofState, "p.qpsqss.ppwpqpq", ""},
		{last, 3, 2, "", ok, "p.spsqss.ppwpqpq", ""},
		{more, 10, 3, "", ofState, "p.spsqss.ppwpqpq", "01"},
		{doze, 13, 0, "", ok, "p.spsqss.ppwpqpq", "023"},
		{poll, 8, 0, "", ok, "p.spsqsq.ppwpqpq", "0123"},
		{wake, 12, 0, "", ok, "p.spsqsq.ppwpqpq", "0123"},
		{del, 1, 0, "", ok, "..spsqsq.ppwpqpq", ""},
		{add, 1, -1, "", ofRange, "..spsqsq.ppwpqpq", ""},
		{add, 14, 3, "0123", ofTwice, "..spsqsq.ppwpqpq", "0123"},
		{more, 16, 2, "", ok, "..spsqsq.ppwpqps", ""},
		{trigger, 7, 3, "", ok, "..spsqpq.ppwpqps", "023"},
		{poll, 5, 0, "", ok, "..spqqpq.ppwpqps", "0123"},
		{more, 4, 2, "", ok, "..spqqpq.ppwpqps", "23"},
		{add, 9, 9, "023", ofRange, "..spqqpq.ppwpqps", ""},
		{doze, 16, 0, "", ok, "..spqqpq.ppwpqps", ""},
		{del, 3, 0, "", ok, "...pqqpq.ppwpqps", ""},
		{doze, 12, 0, "", ok, "...pqqpq.ppspqps", ""},
		{add, 2, 2, "3", ok, ".w.pqqpq.ppspqps", "0123"},
		{doze, 5, 0, "", ok, ".w.pqqpq.ppspqps", "0123"},
		{poll, 1, 0, "", ofNone, ".w.pqqpq.ppspqps", ""},
		{trigger, 5, 0, "", ofState, ".w.pqqpq.ppspqps", "0123"},
		{doze, 2, 0, "", ok, ".s.pqqpq.ppspqps", ""},
		{del, 5, 0, "", ok, ".s.p.qpq.ppspqps", ""},
		{more, 15, 1, "", ok, ".s.p.qpq.ppspqps", "13"},
		{trigger, 12, 2, "", ok, ".s.p.qpq.ppppqps", "023"},
		{add, 3, 8, "023", ok, ".swp.qpq.ppppqps", "0123"},
		{more, 6, 0, "", ok, ".swp.spq.ppppqps", ""},
		{add, 9, 1, "0123", ok, ".swp.spqwppppqps", "0123"},
		{wake, 8, 0, "", ok, ".swp.spwwppppqps", "0123"},
		{more, 15, 0, "", ofState, ".swp.spwwppppqps", "13"},
		{more, 10, 0, "", closed, ".swp.spwwspppqps", ""},
		{del, 1, 0, "", ok, ".swp.spwwspppqps", ""},
		{more, 11, 2, "", closed, ".swp.spwwssppqps", ""},
		{more, 4, 3, "", ok, ".swp.spwwssppqps", "23"},
		{more, 5, 1, "", ofNone, ".swp.spwwssppqps", ""},
		{more, 15, 3, "", ok, ".swp.spwwssppqps", "13"},
		{add, 5, 1, "13", ok, ".swpwspwwssppqps", "0123"},
		{del, 16, 0, "", ok, ".swpwspwwssppqp.", ""},
		{more, 4, 3, "", ok, ".swpwspwwssppqp.", "23"},
		{last, 15, -1, "", ofRange, ".swpwspwwssppqp.", "13"},
		{last, 13, 0, "", closed, ".swpwspwwsspsqp.", ""},
		{doze, 9, 0, "", ok, ".swpwspwssspsqp.", ""},
		{more, 8, 1, "", ok, ".swpwspwssspsqp.", "0123"},
		{last, 14, 2, "", ok, ".swpwspwssspssp.", ""},
		{more, 15, 1, "", ok, ".swpwspwssspssp.", "13"},
		{add, 1, 0, "0", ok, "wswpwspwssspssp.", "0123"},
		{last, 13, 0, "", ofState, "wswpwspwssspssp.", ""},
		{last, 4, 3, "", closed, "wswswspwssspssp.", ""},
		{doze, 8, 0, "", ok, "wswswspsssspssp.", ""},
		{trigger, 3, 0, "", ofState, "wswswspsssspssp.", "0123"},
		{trigger, 14, 2, "", ok, "wswswspsssspspp.", "02"},
		{shut, 0, 0, "", ofNone, "wswswspsssspspp.", ""},
		{shut, 4, 0, "", ofState, "wswswspsssspspp.", ""},
		{doze, 15, 0, "", ok, "wswswspsssspspp.", "13"},
		{add, 16, 0, "013", ok, "wswswspsssspsppw", "0123"},
		{poll, 4, 0, "", ok, "wswqwspsssspsppw", "0123"},
		{add, 10, 3, "02", ofTwice, "wswqwspsssspsppw", ""},
		{doze, 16, 0, "", ok, "wswqwspsssspspps", ""},
		{poll, 12, 0, "", ofState, "wswqwspsssspspps", "023"},
		{shut, 11, 0, "", ofState, "wswqwspsssspspps", ""},
		{del, 11, 0, "", ok, "wswqwspsss.pspps", ""},
		{trigger, 16, 3, "", ok, "wswqwspsss.psppp", "013"},
		{add, 11, 2, "0123", ok, "wswqwspssswpsppp", "0123"},
		{shut, 8, 0, "", ofState, "wswqwspssswpsppp", ""},
		{shut, 15, 0, "", ok, "wswqwspssswpspsp", ""},
		{doze, 1, 0, "", ok, "sswqwspssswpspsp", ""},
		{add, 17, 0, "1", ofRange, "sswqwspssswpspsp", ""},
		{more, 14, 2, "", closed, "sswqwspssswpsssp", ""},
		{more, 13, 2, "", ofState, "sswqwspssswpsssp", ""},
		{trigger, 2, 3, "", ok, "spwqwspssswpsssp", "3"},
		{more, 9, 1, "", ofState, "spwqwspssswpsssp", ""},
		{more, 10, 0, "", ofState, "spwqwspssswpsssp", ""},
		{more, 2, 3, "", ok, "spwqwspssswpsssp", "3"},
		{more, 2, 3, "", closed, "sswqwspssswpsssp", ""},
		{trigger, 13, 2, "", ok, "sswqwspssswppssp", "023"},
		{add, 0, 8, "123", ofRange, "sswqwspssswppssp", ""},
		{trigger, 6, 1, "", ok, "sswqwppssswppssp", "01"},
		{more, 12, 2, "", ok, "sswqwppssswppssp", "023"},
		{add, 5, 8, "0", ofTwice, "sswqwppssswppssp", "0123"},
		{poll, 3, 0, "", ofState, "sswqwppssswppssp", "0123"},
		{more, 5, 3, "", ok, "sswqwppssswppssp", "0123"},
		{poll, 3, 0, "", ofState, "sswqwppssswppssp", "0123"},
		{trigger, 6, 0, "", ofState, "sswqwppssswppssp", "01"},
		{doze, 12, 0, "", ok, "sswqwppssswppssp", "023"},
		{trigger, -1, 0, "", ofNone, "sswqwppssswppssp", ""},
		{doze, 11, 0, "", ok, "sswqwppssssppssp", ""},
		{add, 14, 2, "012", ofTwice, "sswqwppssssppssp", ""},
		{more, 4, 2, "", ok, "sswswppssssppssp", ""},
	})
}

// TestStepsOfFew: three, that come further each.
func TestStepsOfFew(t *testing.T) {
	mustGo(t, []step{
		{poll, 1, 0, "", ofNone, "................", ""},
		{add, 8, 10, "012", ofRange, "................", ""},
		{trigger, 16, 1, "", ofNone, "................", ""},
		{shut, 8, 0, "", ofNone, "................", ""},
		{trigger, 1, 2, "", ofNone, "................", ""},
		{add, 1, 3, "03", ok, "w...............", "0123"},
		{shut, 8, 0, "", ofNone, "w...............", ""},
		{add, 16, 3, "03", ok, "w..............w", "0123"},
		{add, 16, 2, "013", ofTwice, "w..............w", "0123"},
		{doze, 8, 0, "", ofNone, "w..............w", ""},
		{add, 8, 2, "03", ok, "w......w.......w", "0123"},
		{wake, 8, 0, "", ok, "w......w.......w", "0123"},
		{wake, 16, 0, "", ok, "w......w.......w", "0123"},
		{doze, 1, 0, "", ok, "s......w.......w", ""},
		{doze, 8, 0, "", ok, "s......s.......w", ""},
		{trigger, 1, 0, "", ok, "p......s.......w", "03"},
		{more, 1, 3, "", ok, "p......s.......w", "03"},
		{more, 1, 0, "", ok, "p......s.......w", "03"},
		{last, 8, 0, "", ofState, "p......s.......w", ""},
		{more, 8, 3, "", ofState, "p......s.......w", ""},
		{trigger, 8, 0, "", ok, "p......p.......w", "03"},
		{last, 1, 3, "", closed, "s......p.......w", ""},
		{poll, 1, 0, "", ok, "q......p.......w", "0123"},
		{more, 8, 3, "", ok, "q......p.......w", "03"},
		{wake, 1, 0, "", ok, "w......p.......w", "0123"},
		{shut, 1, 0, "", ofState, "w......p.......w", "0123"},
		{doze, 1, 0, "", ok, "s......p.......w", ""},
		{poll, 1, 0, "", ok, "q......p.......w", "0123"},
		{doze, 16, 0, "", ok, "q......p.......s", ""},
		{more, 8, 3, "", closed, "q......s.......s", ""},
		{trigger, 16, 3, "", ok, "q......s.......p", "03"},
		{more, 16, 3, "", ok, "q......s.......p", "03"},
		{more, 16, 3, "", ok, "q......s.......p", "03"},
		{trigger, 8, 2, "", ofState, "q......s.......p", ""},
		{add, 1, 2, "1", ofTwice, "q......s.......p", "0123"},
		{last, 8, 0, "", ofState, "q......s.......p", ""},
		{add, 17, 5, "3", ofRange, "q......s.......p", ""},
		{add, 1, 3, "1", ofTwice, "q......s.......p", "0123"},
		{add, 1, 0, "03", ofTwice, "q......s.......p", "0123"},
		{more, 16, 2, "", ofState, "q......s.......p", "03"},
		{more, 16, 3, "", closed, "q......s.......s", ""},
		{trigger, 8, 3, "", ok, "q......p.......s", "03"},
		{trigger, 16, 3, "", ok, "q......p.......p", "03"},
		{more, 16, 1, "", ofState, "q......p.......p", "03"},
		{more, 8, 3, "", ok, "q......p.......p", "03"},
		{add, 1, 5, "0123", ofTwice, "q......p.......p", "0123"},
		{del, 1, 0, "", ok, ".......p.......p", ""},
		{del, 1, 0, "", ok, ".......p.......p", ""},
		{more, 8, 2, "", ofState, ".......p.......p", "03"},
		{more, 8, 3, "", closed, ".......s.......p", ""},
		{trigger, 8, 0, "", ok, ".......p.......p", "03"},
		{more, 8, 0, "", ok, ".......p.......p", "03"},
		{more, 8, 0, "", closed, ".......s.......p", ""},
		{del, 1, 0, "", ok, ".......s.......p", ""},
		{trigger, 8, 3, "", ok, ".......p.......p", "03"},
		{poll, 16, 0, "", ofState, ".......p.......p", "03"},
		{trigger, 8, 3, "", ofState, ".......p.......p", "03"},
		{more, 8, 3, "", ok, ".......p.......p", "03"},
		{more, 16, 3, "", ok, ".......p.......p", "03"},
		{more, 8, 3, "", closed, ".......s.......p", ""},
		{more, 16, 0, "", ok, ".......s.......p", "03"},
		{more, 8, 2, "", ofState, ".......s.......p", ""},
		{shut, 8, 0, "", ofState, ".......s.......p", ""},
		{more, 16, 0, "", closed, ".......s.......s", ""},
		{del, 1, 0, "", ok, ".......s.......s", ""},
		{del, 16, 0, "", ok, ".......s........", ""},
		{add, 0, 0, "023", ofRange, ".......s........", ""},
		{shut, 16, 0, "", ofNone, ".......s........", ""},
		{poll, 16, 0, "", ofNone, ".......s........", ""},
		{add, 1, 0, "03", ok, "w......s........", "0123"},
		{last, 1, 3, "", ok, "w......s........", "0123"},
		{del, 8, 0, "", ok, "w...............", ""},
		{add, 16, 3, "013", ok, "w..............w", "0123"},
		{add, 8, 0, "03", ok, "w......w.......w", "0123"},
		{doze, 8, 0, "", ok, "w......s.......w", ""},
		{last, 8, 2, "", ofState, "w......s.......w", ""},
		{del, 16, 0, "", ok, "w......s........", ""},
		{add, 16, 3, "2", ok, "w......s.......w", "0123"},
		{last, 1, 3, "", ok, "w......s.......w", "0123"},
		{wake, 1, 0, "", ok, "w......s.......w", "0123"},
		{doze, 1, 0, "", ok, "s......s.......w", ""},
		{del, 16, 0, "", ok, "s......s........", ""},
		{trigger, 8, 5, "", ofRange, "s......s........", ""},
		{trigger, 1, 0, "", ok, "p......s........", "03"},
		{doze, 1, 0, "", ok, "p......s........", "03"},
		{more, 1, 0, "", ok, "p......s........", "03"},
		{add, 1, 9, "12", ofRange, "p......s........", "03"},
		{add, 8, 8, "0", ofTwice, "p......s........", ""},
		{more, 1, 3, "", ok, "p......s........", "03"},
		{wake, 8, 0, "", ok, "p......w........", "0123"},
		{doze, 8, 0, "", ok, "p......s........", ""},
		{trigger, 8, 3, "", ok, "p......p........", "03"},
		{trigger, 16, 2, "", ofNone, "p......p........", ""},
		{trigger, 1, 1, "", ofState, "p......p........", "03"},
		{more, 1, 0, "", ok, "p......p........", "03"},
		{more, 1, 3, "", ok, "p......p........", "03"},
		{add, 16, 0, "", ok, "p......p.......w", "0123"},
		{more, 1, 3, "", ok, "p......p.......w", "03"},
		{doze, 16, 0, "", ok, "p......p.......s", ""},
		{more, 1, 0, "", ok, "p......p.......s", "03"},
		{more, 1, 0, "", ok, "p......p.......s", "03"},
		{last, 8, 3, "", closed, "p......s.......s", ""},
		{trigger, 8, 0, "", ok, "p......p.......s", "03"},
		{more, 8, 0, "", ok, "p......p.......s", "03"},
		{more, 1, 0, "", ok, "p......p.......s", "03"},
		{del, 16, 0, "", ok, "p......p........", ""},
		{more, 8, 3, "", ok, "p......p........", "03"},
		{more, 8, 3, "", ok, "p......p........", "03"},
		{last, 8, 0, "", closed, "p......s........", ""},
		{add, 16, 8, "012", ok, "p......s.......w", "0123"},
		{more, 1, 3, "", ok, "p......s.......w", "03"},
		{poll, 16, 0, "", ofState, "p......s.......w", "0123"},
		{poll, 1, 0, "", ofState, "p......s.......w", "03"},
		{poll, 16, 0, "", ofState, "p......s.......w", "0123"},
		{del, 8, 0, "", ok, "p..............w", ""},
		{more, 1, 0, "", ok, "p..............w", "03"},
		{doze, 16, 0, "", ok, "p..............s", ""},
		{more, 1, 3, "", ok, "p..............s", "03"},
		{more, 1, 3, "", ok, "p..............s", "03"},
		{more, 8, 2, "", ofNone, "p..............s", ""},
		{add, 8, 0, "123", ok, "p......w.......s", "0123"},
		{shut, 8, 0, "", ofState, "p......w.......s", "0123"},
		{wake, 16, 0, "", ok, "p......w.......w", "0123"},
		{poll, 1, 0, "", ofState, "p......w.......w", "03"},
		{more, 1, -1, "", ofRange, "p......w.......w", "03"},
		{shut, 8, 0, "", ofState, "p......w.......w", "0123"},
		{wake, 1, 0, "", ok, "w......w.......w", "0123"},
		{doze, 8, 0, "", ok, "w......s.......w", ""},
		{doze, 16, 0, "", ok, "w......s.......s", ""},
		{trigger, 16, 3, "", ofState, "w......s.......s", ""},
		{poll, 16, 0, "", ok, "w......s.......q", "0123"},
		{add, 16, 8, "02", ofTwice, "w......s.......q", "0123"},
		{wake, 8, 0, "", ok, "w......w.......q", "0123"},
		{doze, 8, 0, "", ok, "w......s.......q", ""},
		{wake, 16, 0, "", ok, "w......s.......w", "0123"},
		{add, 1, 2, "23", ofTwice, "w......s.......w", "0123"},
		{add, 1, 3, "01", ofTwice, "w......s.......w", "0123"},
		{last, 16, 2, "", ok, "w......s.......w", "0123"},
		{wake, 1, 0, "", ok, "w......s.......w", "0123"},
		{doze, 16, 0, "", ok, "w......s.......s", ""},
		{poll, 8, 0, "", ok, "w......q.......s", "0123"},
		{doze, 1, 0, "", ok, "s......q.......s", ""},
		{del, 1, 0, "", ok, ".......q.......s", ""},
		{add, 1, 3, "123", ok, "w......q.......s", "0123"},
		{trigger, 8, 1, "", ofState, "w......q.......s", "0123"},
		{doze, 8, 0, "", ok, "w......q.......s", "0123"},
		{del, 16, 0, "", ok, "w......q........", ""},
		{wake, 1, 0, "", ok, "w......q........", "0123"},
		{doze, 16, 0, "", ofNone, "w......q........", ""},
		{add, 17, 5, "013", ofRange, "w......q........", ""},
		{wake, 8, 0, "", ok, "w......w........", "0123"},
		{doze, 8, 0, "", ok, "w......s........", ""},
		{doze, 1, 0, "", ok, "s......s........", ""},
		{more, 1, 3, "", ofState, "s......s........", ""},
		{trigger, 8, 2, "", ok, "s......p........", "123"},
		{wake, 1, 0, "", ok, "w......p........", "0123"},
		{add, 16, 8, "123", ok, "w......p.......w", "0123"},
		{doze, 16, 0, "", ok, "w......p.......s", ""},
		{shut, 16, 0, "", ofState, "w......p.......s", ""},
		{poll, 1, 0, "", ofState, "w......p.......s", "0123"},
	})
}

// rival keeps of each station what it was added with, and what was taken since it went to sleep, and looks through that anew
// for each answer.
type rival map[int]known

type known struct {
	uapsd string
	most  int
	log   string // empty: it is awake; else 'd', and of what was taken then: 'q' Poll, 't' Trigger, 'm' Sent with more, 'l' without, 'c' Close
}

func (r rival) copy() rival {
	c := rival{}
	for aid, k := range r {
		c[aid] = k
	}
	return c
}

// left is how many transmissions an open period has: 0 if none is open.
func (k known) left() int {
	i := strings.LastIndex(k.log, "t")
	switch {
	case i < 0 || strings.ContainsAny(k.log[i:], "lcq"):
		return 0
	case k.most == 0:
		return endless
	}
	return max(k.most-strings.Count(k.log[i:], "m"), 0)
}

// view is how the station is.
func (k known) view() view {
	v := one(k.uapsd, k.most)
	switch {
	case k.log == "":
		return v
	case strings.HasSuffix(k.log, "q"):
		return v.as("polled")
	case k.left() != 0:
		return v.in(k.left())
	}
	return v.as("asleep")
}

func (r rival) add(aid, most int, uapsd string) int {
	if aid < 1 || aid > 16 || most < 0 || most > 8 {
		return ofRange
	}
	if _, is := r[aid]; is {
		return ofTwice
	}
	r[aid] = known{uapsd: uapsd, most: most}
	return ok
}

// takes is what is taken down of a call, or why it isn't taken.
func (k known) takes(call, n int) (string, int) {
	how := k.view().how
	ofAC := call == trigger || call == more || call == last
	switch {
	case ofAC && (n < 0 || n > 3):
		return "", ofRange
	case call == poll && (how == "asleep" || how == "polled"):
		return "q", ok
	case call == shut && how == "period":
		return "c", ok
	case call == trigger && how == "asleep" && set(k.uapsd)[n]:
		return "t", ok
	case (call == more || call == last) && how == "awake":
		return "", ok
	case (call == more || call == last) && set(k.view().may)[n]:
		return map[int]string{more: "m", last: "l"}[call], ok
	}
	return "", ofState
}

func (r rival) do(call, aid, n int, uapsd string) int {
	k, is := r[aid]
	switch {
	case call == add:
		return r.add(aid, n, uapsd)
	case call == del:
		delete(r, aid)
		return ok
	case !is:
		return ofNone
	case call == doze && k.log == "":
		k.log = "d"
	case call == wake:
		k.log = ""
	case call != doze:
		open := k.left() != 0
		letter, answer := k.takes(call, n)
		k.log += letter
		if open && k.left() == 0 && call != shut {
			answer = closed
		}
		r[aid] = k
		return answer
	}
	r[aid] = k
	return ok
}

func (r rival) all() (a all) {
	for aid, k := range r {
		a = a.but(aid, k.view())
	}
	return a
}

// mustLook asks what is told of a station without a copy.
func mustLook(t *testing.T, p *Power, aid int, want view) {
	t.Helper()
	sleeps := want.how != "" && want.how != "awake"
	if may := mayBe(t, p, aid); p.Asleep(aid) != sleeps || p.Polled(aid) != (want.how == "polled") || may != want.may {
		t.Fatalf("%d is not %v: %v, %v, %s", aid, want, p.Asleep(aid), p.Polled(aid), may)
	}
}

func mustLookAtAll(t *testing.T, p *Power, want all) {
	t.Helper()
	for aid, v := range want {
		mustLook(t, p, aid, v)
	}
}

func mustDoAsRival(t *testing.T, p *Power, r rival, call, aid, n int, uapsd string) int {
	t.Helper()
	a, b := do(p, call, aid, n, uapsd), r.do(call, aid, n, uapsd)
	if a != b {
		t.Fatalf("call %d of %d, %d: answer %d, not %d", call, aid, n, a, b)
	}
	mustLookAtAll(t, p, r.all())
	if aid >= 1 && aid <= 16 {
		if now := tell(t, p, aid); now != r.all()[aid] {
			t.Fatalf("call %d of %d, %d: is %v, not %v", call, aid, n, now, r.all()[aid])
		}
	}
	return a
}

// TestAllCourses: each course of five calls of one station, that sleeps, has one category with uapsd and others without, and
// periods of two; held against the rival.
func TestAllCourses(t *testing.T) {
	courses := 0
	var goOn func(p *Power, r rival, calls int)
	goOn = func(p *Power, r rival, calls int) {
		if calls == 0 {
			courses++
			return
		}
		for _, x := range [][2]int{{add, 2}, {del}, {doze}, {wake}, {poll}, {trigger, 1}, {trigger, 2}, {more, 1}, {more, 2}, {last, 1}, {shut}} {
			q, s := p.Clone(), r.copy()
			if a, b := do(q, x[0], 3, x[1], "1"), s.do(x[0], 3, x[1], "1"); a != b {
				t.Fatalf("call %d, %d: answer %d, not %d, of %v", x[0], x[1], a, b, r)
			}
			mustLook(t, q, 3, s.all()[3])
			goOn(q, s, calls-1)
		}
	}
	var p Power
	r := rival{}
	mustDoAsRival(t, &p, r, add, 3, 2, "1")
	mustDoAsRival(t, &p, r, doze, 3, 0, "")
	goOn(&p, r, 5)
	if courses != 11*11*11*11*11 {
		t.Error(courses)
	}
}

// dice is numbers that look like thrown ones, the same each time.
type dice uint64

func (d *dice) throw() uint64 {
	*d += 0x9e3779b97f4a7c15
	x := uint64(*d)
	x = (x ^ x>>30) * 0xbf58476d1ce4e5b9
	x = (x ^ x>>27) * 0x94d049bb133111eb
	return x ^ x>>31
}

func (d *dice) below(n int) int { return int(d.throw() % uint64(n)) }

// aid is one of those that this course is about mostly, any of them, or none.
func (d *dice) aid(about []int) int {
	switch d.below(24) {
	case 0:
		return noAids()[d.below(len(noAids()))]
	case 1:
		return 1 + d.below(16)
	}
	return about[d.below(len(about))]
}

// call is one that a station may take as it is, mostly.
func (d *dice) call(how string) int {
	if d.below(5) == 0 {
		return d.below(9)
	}
	l := map[string][]int{"": {add}, "awake": {doze, doze, doze, more, last}, "asleep": {trigger, trigger, trigger, poll, wake}, "polled": {more, last, poll, doze, wake}, "period": {more, more, more, more, more, more, more, doze, last, shut, wake}}[how]
	return l[d.below(len(l))]
}

// number is a most or a category for that call.
func (d *dice) number(call int, uapsd string) int {
	wrong := d.below(20) == 0
	switch {
	case call == add && wrong:
		return noMosts()[d.below(len(noMosts()))]
	case call == add:
		return d.below(9)
	case wrong:
		return noACs()[d.below(len(noACs()))]
	case uapsd != "" && d.below(6) > 0:
		return int(uapsd[d.below(len(uapsd))] - '0')
	}
	return d.below(4)
}

// TestModel: long courses, of one and of copies of it, each step held against the rival.
func TestModel(t *testing.T) {
	answers := [7]int{}
	seen := map[view]int{}
	for seed := range 400 {
		d := dice(seed)
		about := [][]int{{1, 2, 3, 4, 5, 6, 7, 8, 9, 10, 11, 12, 13, 14, 15, 16}, {1, 2, 8, 15, 16}, {3, 4}}[d.below(3)]
		p, r := new(Power), rival{}
		p2, r2 := p.Clone(), r.copy()
		for range 300 {
			switch d.below(32) {
			case 0:
				p2, r2 = p.Clone(), r.copy()
				mustBe(t, p2, r2.all())
			case 1:
				p, r, p2, r2 = p2, r2, p, r
				mustBe(t, p, r.all())
			default:
				aid := d.aid(about)
				how := ""
				if k, is := r[aid]; is {
					how = k.view().how
				}
				call := d.call(how)
				answers[mustDoAsRival(t, p, r, call, aid, d.number(call, r[aid].uapsd), sets()[d.below(16)])]++
				if k, is := r[aid]; is {
					seen[k.view()]++
				}
			}
			mustLookAtAll(t, p2, r2.all())
		}
		mustBe(t, p, r.all())
		mustBe(t, p2, r2.all())
	}
	// The courses have to have come to what they are for.
	if answers[ok] < 50000 || answers[closed] < 2000 || answers[ofRange] < 1000 || answers[ofTwice] < 1000 || answers[ofNone] < 500 || answers[ofState] < 5000 || answers[ofElse] > 0 || len(seen) < 800 {
		t.Error(answers, len(seen))
	}
}

// FuzzPs: a course of any bytes, held against the rival.
func FuzzPs(f *testing.F) {
	f.Add([]byte{})
	f.Add([]byte{0x04, 0x93, 0x24, 0, 0x54, 0, 0x64, 0, 0x64, 3, 0xe4, 0, 0x74, 0, 0x44, 0, 0x64, 1, 0x34, 0, 0x14, 0})
	f.Add([]byte{0x01, 0xf8, 0x10, 0xf0, 0x21, 0, 0x20, 0, 0x51, 2, 0x50, 2, 0xb1, 0, 0x61, 2, 0xc0, 0, 0x60, 2, 0x81, 0, 0x80, 0})
	f.Fuzz(func(t *testing.T, b []byte) {
		p, r := new(Power), rival{}
		p2, r2 := p.Clone(), r.copy()
		for ; len(b) > 1; b = b[2:] {
			aid, n := int(b[0]&15)+1, int(int8(b[1]<<4))>>4
			if b[1] == 255 {
				aid = 17 * (aid & 1)
			}
			call := int(b[0] >> 4)
			switch {
			case call > 8 && call < 12:
				p2, r2 = p.Clone(), r.copy()
			case call >= 12:
				p, r, p2, r2 = p2, r2, p, r
			case call == add:
				mustDoAsRival(t, p, r, add, aid, int(b[1]&15)-1, sets()[b[1]>>4])
			default:
				mustDoAsRival(t, p, r, call, aid, n, "")
			}
			mustLookAtAll(t, p2, r2.all())
		}
		mustBe(t, p, r.all())
		mustBe(t, p2, r2.all())
	})
}
