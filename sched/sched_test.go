package sched

import (
	"math"
	"math/big"
	"math/bits"
	"slices"
	"testing"

	"muezzin/api"
)

// The chapter's numbers, apart from the program's.
const (
	limit = 1 << 40 // the greatest air of a Charge
	top   = 1 << 60 // the greatest time
)

// none stands, in what a test tells of times, where there is none.
const none = -1

// The calls that a test tells by number.
const (
	add = iota
	del
	weigh
	on
	off
	charge
)

// The answers that a test tells by number.
const (
	ok = iota
	ofRange
	ofTwice
	ofNone
)

func errOf(answer int) error {
	return []error{nil, api.ErrRange, api.ErrTwice, api.ErrNone}[answer]
}

// do is one call, by its number.
func do(s *Sched, call, aid int, n int64) error {
	switch call {
	case add:
		return s.Add(aid, int(n))
	case del:
		return s.Del(aid)
	case weigh:
		return s.Weigh(aid, int(n))
	case charge:
		return s.Charge(aid, n)
	}
	return s.Active(aid, call == on)
}

// noAids is what is no station's number.
func noAids() []int {
	l := []int{0, -1, -16, -17, 17, 18, 32, 33, 255, 257, 65537, api.MaxAID, math.MinInt, math.MinInt + 1, math.MaxInt}
	if one := 1; bits.UintSize == 64 {
		// A half of it would be one.
		l = append(l, one<<32+1)
	}
	return l
}

// noWeights is what is no weight.
func noWeights() []int {
	l := []int{0, -1, -2, -100, 101, 102, 200, 256, 257, 65537, math.MinInt, math.MinInt + 1, math.MaxInt}
	if one := 1; bits.UintSize == 64 {
		l = append(l, one<<32, one<<32+1)
	}
	return l
}

// noAirs is what may not be charged.
func noAirs() []int64 {
	return []int64{-1, -2, -limit, limit + 1, limit + 2, 2 * limit, 1 << 62, math.MinInt64, math.MinInt64 + 1, math.MinInt64 + limit, math.MaxInt64}
}

// airs is what may be, from end to end.
func airs() []int64 {
	return []int64{0, 1, 2, 3, 7, 99, 100, 101, 1 << 16, 1<<31 - 1, 1 << 31, 1<<32 - 1, 1 << 32, limit / 2, limit - 2, limit - 1, limit}
}

// state is what Order and Time tell: the active ones in their order, a letter each ('a' is 1), and each one's time.
type state struct {
	order string
	time  [17]int64
}

// empty is the state where no station is there.
func empty() (s state) {
	for aid := range s.time {
		s.time[aid] = none
	}
	return s
}

// but is the state with another time of one station.
func (s state) but(aid int, time int64) state {
	s.time[aid] = time
	return s
}

// in is the state with another order.
func (s state) in(order string) state {
	s.order = order
	return s
}

func letters(order []int) string {
	var b []byte
	for _, aid := range order {
		if aid < 1 || aid > 16 {
			return "of no station"
		}
		b = append(b, byte('a'+aid-1))
	}
	return string(b)
}

func tell(t *testing.T, s *Sched) (now state) {
	t.Helper()
	now.order = letters(s.Order())
	for aid := range now.time {
		n, is := s.Time(aid)
		if !is && n != 0 {
			t.Fatalf("Time(%d): %d beside a false", aid, n)
		}
		now.time[aid] = n
		if !is {
			now.time[aid] = none
		}
	}
	return now
}

func mustBe(t *testing.T, s *Sched, want state) {
	t.Helper()
	if now := tell(t, s); now != want {
		t.Fatalf("is %v, not %v", now, want)
	}
}

// must makes a call that is taken.
func must(t *testing.T, s *Sched, call, aid int, n int64) {
	t.Helper()
	if err := do(s, call, aid, n); err != nil {
		t.Fatalf("call %d of %d, %d: %v", call, aid, n, err)
	}
}

// mustRefuse makes a call that is not, and asks that nothing changes.
func mustRefuse(t *testing.T, s *Sched, call, aid int, n int64, err error) {
	t.Helper()
	before := tell(t, s)
	if e := do(s, call, aid, n); e != err {
		t.Fatalf("call %d of %d, %d: %v, not %v", call, aid, n, e, err)
	}
	mustBe(t, s, before)
}

// mustWeigh asks what a station weighs, by what a charge of a copy counts; 9,900 is counted otherwise for each weight.
func mustWeigh(t *testing.T, s *Sched, aid int, weight int64) {
	t.Helper()
	c := s.Clone()
	before, _ := c.Time(aid)
	must(t, c, charge, aid, 9900)
	if n, is := c.Time(aid); n != before+99000000/weight || !is {
		t.Fatalf("%d is charged %d, not as one that weighs %d", aid, n-before, weight)
	}
}

// bring makes a station, that weighs 1, have that time, by charges: of as much as may be, then, so that each number comes,
// some at a weight of 100, which are 100 each, and some at one of 99, which are 101.
func bring(t *testing.T, s *Sched, aid int, time int64) {
	t.Helper()
	now, _ := s.Time(aid)
	for ; time-now > limit*10000+10000; now += limit * 10000 {
		must(t, s, charge, aid, limit)
	}
	if air := (time - now - 10000) / 10000; air > 0 {
		must(t, s, charge, aid, air)
		now += air * 10000
	}
	must(t, s, weigh, aid, 99)
	for ; (time-now)%100 != 0; now += 101 {
		must(t, s, charge, aid, 1)
	}
	must(t, s, weigh, aid, 100)
	must(t, s, charge, aid, (time-now)/100)
	must(t, s, weigh, aid, 1)
	if n, _ := s.Time(aid); n != time {
		t.Fatalf("%d, not %d", n, time)
	}
}

// some is one with five stations: 3 (of weight 7), 2 (100) and 16 (1) are active, at 0, 500 and 30,000; 1 (30) and 9 (1) are
// not, at 333 and 20,000.
func some(t *testing.T) (*Sched, state) {
	t.Helper()
	s := New()
	for _, x := range []struct {
		aid         int
		weight, air int64
		active      bool
	}{{3, 7, 0, true}, {1, 30, 1, false}, {2, 100, 5, true}, {9, 1, 2, false}, {16, 1, 3, true}} {
		must(t, s, add, x.aid, x.weight)
		must(t, s, charge, x.aid, x.air)
		if x.active {
			must(t, s, on, x.aid, 0)
		}
	}
	want := empty().but(1, 333).but(2, 500).but(3, 0).but(9, 20000).but(16, 30000).in("cbp")
	mustBe(t, s, want)
	return s, want
}

// busy is one with all stations, of weight 1, active, of time 0.
func busy(t *testing.T) (*Sched, state) {
	t.Helper()
	s, want := New(), empty().in("abcdefghijklmnop")
	for aid := 1; aid <= 16; aid++ {
		must(t, s, add, aid, 1)
		must(t, s, on, aid, 0)
		want = want.but(aid, 0)
	}
	mustBe(t, s, want)
	return s, want
}

func TestScale(t *testing.T) {
	if Scale != 10000 {
		t.Error(Scale)
	}
}

func TestNew(t *testing.T) {
	s := New()
	if len(s.Order()) != 0 {
		t.Error(s.Order())
	}
	mustBe(t, s, empty())
	mustBe(t, s.Clone(), empty())
	for _, aid := range append(noAids(), 1, 2, 15, 16) {
		if n, is := s.Time(aid); n != 0 || is {
			t.Error(aid, n, is)
		}
	}
}

// TestNewOnes: what one is told, another one does not know.
func TestNewOnes(t *testing.T) {
	s, want := some(t)
	mustBe(t, New(), empty())
	busy(t)
	mustBe(t, s, want)
}

// TestAdd: each station of each weight, alone and beside others.
func TestAdd(t *testing.T) {
	for aid := 1; aid <= 16; aid++ {
		for weight := int64(1); weight <= 100; weight++ {
			s := New()
			must(t, s, add, aid, weight)
			mustBe(t, s, empty().but(aid, 0))
			mustWeigh(t, s, aid, weight)
		}
	}
	for _, aid := range []int{4, 5, 8, 10, 15} {
		for _, weight := range []int64{1, 2, 50, 99, 100} {
			s, want := some(t)
			must(t, s, add, aid, weight)
			mustBe(t, s, want.but(aid, 0))
			mustWeigh(t, s, aid, weight)
		}
	}
}

// TestAddOutOfRange: of an aid, of a weight, of both; where nobody is there, where some are, where all are: it is told ahead
// of that there is one.
func TestAddOutOfRange(t *testing.T) {
	s1, _ := some(t)
	s2, _ := busy(t)
	for _, s := range []*Sched{New(), s1, s2} {
		for _, aid := range noAids() {
			for _, weight := range append(noWeights(), 1, 2, 50, 99, 100) {
				mustRefuse(t, s, add, aid, int64(weight), api.ErrRange)
			}
		}
		for aid := 1; aid <= 16; aid++ {
			for _, weight := range noWeights() {
				mustRefuse(t, s, add, aid, int64(weight), api.ErrRange)
			}
		}
	}
}

// TestAddTwice: its weight, its time and its turn stay.
func TestAddTwice(t *testing.T) {
	s, want := some(t)
	for aid, weighs := range map[int]int64{1: 30, 2: 100, 3: 7, 9: 1, 16: 1} {
		for _, weight := range []int64{1, 2, 50, 99, 100} {
			mustRefuse(t, s, add, aid, weight, api.ErrTwice)
			mustWeigh(t, s, aid, weighs)
		}
		for _, weight := range noWeights() {
			mustRefuse(t, s, add, aid, int64(weight), api.ErrRange)
			mustWeigh(t, s, aid, weighs)
		}
	}
	mustBe(t, s, want)
}

// TestNone: who is not there, never was, or is there no more; with what else would be right and with what would be wrong.
func TestNone(t *testing.T) {
	s1, _ := some(t)
	s2, _ := busy(t)
	must(t, s2, del, 1, 0)
	must(t, s2, del, 7, 0)
	must(t, s2, del, 16, 0)
	for _, x := range []struct {
		s    *Sched
		away []int
	}{
		{New(), []int{1, 2, 3, 4, 5, 6, 7, 8, 9, 10, 11, 12, 13, 14, 15, 16}},
		{s1, []int{4, 5, 6, 7, 8, 10, 11, 12, 13, 14, 15}},
		{s2, []int{1, 7, 16}},
	} {
		for _, aid := range append(noAids(), x.away...) {
			mustRefuse(t, x.s, del, aid, 0, api.ErrNone)
			mustRefuse(t, x.s, on, aid, 0, api.ErrNone)
			mustRefuse(t, x.s, off, aid, 0, api.ErrNone)
			for _, weight := range append(noWeights(), 1, 2, 50, 99, 100) {
				mustRefuse(t, x.s, weigh, aid, int64(weight), api.ErrNone)
			}
			for _, air := range append(noAirs(), airs()...) {
				mustRefuse(t, x.s, charge, aid, air, api.ErrNone)
			}
			if n, is := x.s.Time(aid); n != 0 || is {
				t.Fatal(aid, n, is)
			}
		}
	}
}

// TestDel: of each, active or not: it stands nowhere, and the others stay as they are.
func TestDel(t *testing.T) {
	for aid, order := range map[int]string{1: "cbp", 2: "cp", 3: "bp", 9: "cbp", 16: "cb"} {
		s, want := some(t)
		must(t, s, del, aid, 0)
		want = want.but(aid, none).in(order)
		mustBe(t, s, want)
		mustRefuse(t, s, del, aid, 0, api.ErrNone)
		for other, weight := range map[int]int64{1: 30, 2: 100, 3: 7, 9: 1, 16: 1} {
			if other != aid {
				mustWeigh(t, s, other, weight)
			}
		}
	}
}

// TestAddAgain: its time is 0, it is not active, and it weighs what it is told; then it has its turns as one that is new.
func TestAddAgain(t *testing.T) {
	for aid, order := range map[int]string{1: "cbp", 2: "cp", 3: "bp", 9: "cbp", 16: "cb"} {
		for _, weight := range []int64{1, 60, 100} {
			s, want := some(t)
			must(t, s, del, aid, 0)
			must(t, s, add, aid, weight)
			want = want.but(aid, 0).in(order)
			mustBe(t, s, want)
			mustWeigh(t, s, aid, weight)
			mustRefuse(t, s, add, aid, weight, api.ErrTwice)
			must(t, s, off, aid, 0)
			mustBe(t, s, want)
		}
	}
	s, want := some(t)
	must(t, s, del, 3, 0)
	must(t, s, add, 3, 1)
	must(t, s, on, 3, 0)
	// 2 is the least one now, at 500.
	mustBe(t, s, want.but(3, 500).in("bcp"))
	must(t, s, del, 2, 0)
	must(t, s, add, 2, 1)
	must(t, s, charge, 2, 1)
	must(t, s, on, 2, 0)
	mustBe(t, s, want.but(3, 500).but(2, 10000).in("cbp"))
}

// TestDelEachInTurn: whose turn it is goes, one by one, and comes again; and so from the end, and from the middle.
func TestDelEachInTurn(t *testing.T) {
	for _, from := range []func(order []int) int{
		func(order []int) int { return order[0] },
		func(order []int) int { return order[len(order)-1] },
		func(order []int) int { return order[len(order)/2] },
		func(order []int) int { return order[len(order)/3] },
	} {
		s, want := busy(t)
		for aid := 1; aid <= 16; aid++ {
			must(t, s, charge, aid, int64(aid*7%17))
			want = want.but(aid, int64(aid*7%17)*10000)
		}
		// By 7 times the aid modulo 17.
		want = want.in("ejochmafkpdinbgl")
		mustBe(t, s, want)
		for order := s.Order(); len(order) > 0; order = s.Order() {
			aid := from(order)
			must(t, s, del, aid, 0)
			order = slices.DeleteFunc(order, func(other int) bool { return other == aid })
			want = want.but(aid, none).in(letters(order))
			mustBe(t, s, want)
		}
		mustBe(t, s, empty())
	}
}

// TestWeigh: each weight of each station, active or not: its time and its turn stay.
func TestWeigh(t *testing.T) {
	for _, aid := range []int{1, 2, 3, 9, 16} {
		s, want := some(t)
		for weight := int64(1); weight <= 100; weight++ {
			must(t, s, weigh, aid, weight)
			mustBe(t, s, want)
			mustWeigh(t, s, aid, weight)
			must(t, s, weigh, aid, 101-weight)
			mustBe(t, s, want)
			mustWeigh(t, s, aid, 101-weight)
		}
		for other, weight := range map[int]int64{1: 30, 2: 100, 3: 7, 9: 1, 16: 1} {
			if other != aid {
				mustWeigh(t, s, other, weight)
			}
		}
	}
}

func TestWeighOutOfRange(t *testing.T) {
	s, want := some(t)
	for aid, weighs := range map[int]int64{1: 30, 2: 100, 3: 7, 9: 1, 16: 1} {
		for _, weight := range noWeights() {
			mustRefuse(t, s, weigh, aid, int64(weight), api.ErrRange)
			mustWeigh(t, s, aid, weighs)
		}
	}
	mustBe(t, s, want)
}

// TestChargeBehindWeigh: what was charged ahead of it stays as it was counted.
func TestChargeBehindWeigh(t *testing.T) {
	s, want := some(t)
	for _, x := range []struct {
		weight, air, time int64
		order             string
	}{
		{7, 1, 1428, "bcp"}, {1, 1, 11428, "bcp"}, {100, 1, 11528, "bcp"}, {3, 2, 18194, "bcp"}, {1, 2, 38194, "bpc"},
		{100, 0, 38194, "bpc"}, {99, 1, 38295, "bpc"}, {2, 3, 53295, "bpc"},
	} {
		must(t, s, weigh, 3, x.weight)
		must(t, s, charge, 3, x.air)
		want = want.but(3, x.time).in(x.order)
		mustBe(t, s, want)
	}
	// Of one that is not active.
	must(t, s, charge, 9, 1)
	must(t, s, weigh, 9, 100)
	must(t, s, charge, 9, 1)
	mustBe(t, s, want.but(9, 30100))
}

// TestOn: of one that has less than the least active one, as much, one more, more than all of them.
func TestOn(t *testing.T) {
	for _, x := range []struct {
		time, then int64
		order      string
	}{
		{10000, 20000, "aek"}, {19999, 20000, "aek"}, {20000, 20000, "aek"}, {20001, 20001, "aek"}, {29999, 29999, "aek"},
		{30000, 30000, "aek"}, {30001, 30001, "ake"}, {1 << 50, 1 << 50, "ake"}, {top - 1, top - 1, "ake"}, {top, top, "ake"},
	} {
		s := New()
		for _, aid := range []int{1, 5, 11} {
			must(t, s, add, aid, 1)
		}
		must(t, s, charge, 1, 2)
		must(t, s, charge, 11, 3)
		must(t, s, on, 1, 0)
		must(t, s, on, 11, 0)
		want := empty().but(1, 20000).but(5, 0).but(11, 30000).in("ak")
		mustBe(t, s, want)
		bring(t, s, 5, x.time)
		mustBe(t, s, want.but(5, x.time))
		must(t, s, on, 5, 0)
		want = want.but(5, x.then).in(x.order)
		mustBe(t, s, want)
		must(t, s, on, 5, 0)
		mustBe(t, s, want)
		must(t, s, off, 5, 0)
		mustBe(t, s, want.in("ak"))
	}
}

// TestOnBehindOne: the only active one is the least one, whatever it has.
func TestOnBehindOne(t *testing.T) {
	s := New()
	for aid, air := range map[int]int64{1: 2, 5: 4, 11: 3} {
		must(t, s, add, aid, 1)
		must(t, s, charge, aid, air)
	}
	want := empty().but(1, 20000).but(5, 40000).but(11, 30000)
	must(t, s, on, 11, 0)
	mustBe(t, s, want.in("k"))
	must(t, s, on, 1, 0)
	mustBe(t, s, want.but(1, 30000).in("ak"))
	must(t, s, on, 5, 0)
	mustBe(t, s, want.but(1, 30000).in("ake"))
}

// TestOnOfNothing: of one that was charged nothing: it comes beside the least one, in front of it where its aid is less.
func TestOnOfNothing(t *testing.T) {
	for aid, order := range map[int]string{1: "acbp", 9: "cibp"} {
		s, want := some(t)
		must(t, s, del, aid, 0)
		must(t, s, add, aid, 1)
		must(t, s, on, aid, 0)
		mustBe(t, s, want.but(aid, 0).in(order))
	}
	s, want := some(t)
	must(t, s, off, 3, 0)
	must(t, s, add, 15, 1)
	must(t, s, on, 15, 0)
	mustBe(t, s, want.but(15, 500).in("bop"))
	// Who is not active is not the least one, though it has less.
	must(t, s, on, 1, 0)
	mustBe(t, s, want.but(15, 500).but(1, 500).in("abop"))
	must(t, s, on, 3, 0)
	mustBe(t, s, want.but(15, 500).but(1, 500).but(3, 500).in("abcop"))
}

// TestOnWhenNoneIs: its time is as it was.
func TestOnWhenNoneIs(t *testing.T) {
	for _, time := range []int64{0, 10000, 30000, 1 << 50, top - 1, top} {
		s := New()
		must(t, s, add, 8, 1)
		must(t, s, add, 2, 1)
		must(t, s, charge, 2, 7)
		if time > 0 {
			bring(t, s, 8, time)
		}
		want := empty().but(8, time).but(2, 70000)
		must(t, s, on, 8, 0)
		mustBe(t, s, want.in("h"))
		must(t, s, off, 8, 0)
		mustBe(t, s, want)
		must(t, s, on, 8, 0)
		mustBe(t, s, want.in("h"))
		must(t, s, off, 8, 0)
		must(t, s, on, 2, 0)
		mustBe(t, s, want.in("b"))
	}
}

// TestOnTwice: one that is active already stays where it is, also where it is not the least one, and stands there once.
func TestOnTwice(t *testing.T) {
	s, want := some(t)
	for range 3 {
		for _, aid := range []int{16, 2, 3} {
			must(t, s, on, aid, 0)
			mustBe(t, s, want)
		}
	}
	must(t, s, off, 3, 0)
	mustBe(t, s, want.in("bp"))
	// Its time is behind that of the least one now, and comes there when it becomes active.
	must(t, s, on, 16, 0)
	mustBe(t, s, want.in("bp"))
	must(t, s, on, 3, 0)
	mustBe(t, s, want.but(3, 500).in("bcp"))
}

// TestOff: of each that is active, of who is not, and twice: the times stay.
func TestOff(t *testing.T) {
	for aid, order := range map[int]string{1: "cbp", 2: "cp", 3: "bp", 9: "cbp", 16: "cb"} {
		s, want := some(t)
		for range 2 {
			must(t, s, off, aid, 0)
			mustBe(t, s, want.in(order))
		}
		must(t, s, charge, aid, 0)
		mustBe(t, s, want.in(order))
	}
	s, want := some(t)
	for aid := 1; aid <= 16; aid++ {
		if want.time[aid] != none {
			must(t, s, off, aid, 0)
		}
	}
	mustBe(t, s, want.in(""))
}

// TestCharge: each amount at some weights, of one that is active and of one that is not.
func TestCharge(t *testing.T) {
	for _, x := range []struct{ weight, air, more int64 }{
		{1, 0, 0}, {1, 1, 10000}, {1, 2, 20000}, {1, 54840, 548400000}, {1, limit - 1, 10995116277750000}, {1, limit, 10995116277760000},
		{2, 0, 0}, {2, 1, 5000}, {2, limit, 5497558138880000},
		{3, 0, 0}, {3, 1, 3333}, {3, 2, 6666}, {3, 3, 10000}, {3, limit, 3665038759253333}, {3, limit - 1, 3665038759250000},
		{7, 1, 1428}, {7, 2, 2857}, {7, 6, 8571}, {7, 7, 10000}, {7, limit, 1570730896822857},
		{9, 8, 8888}, {9, 9, 10000}, {9, 10, 11111}, {16, 1, 625}, {60, 1, 166}, {64, 1, 156}, {97, 1, 103}, {99, 98, 9898}, {99, 100, 10101},
		{99, limit, 111061780583434}, {100, 0, 0}, {100, 1, 100}, {100, 2, 200}, {100, 99, 9900}, {100, limit - 1, 109951162777500}, {100, limit, 109951162777600},
	} {
		for aid := 1; aid <= 16; aid++ {
			s := New()
			must(t, s, add, aid, x.weight)
			must(t, s, add, aid%16+1, 1)
			must(t, s, charge, aid%16+1, 9)
			want := empty().but(aid%16+1, 90000)
			must(t, s, charge, aid, x.air)
			mustBe(t, s, want.but(aid, x.more))
			must(t, s, on, aid, 0)
			must(t, s, charge, aid, x.air)
			mustBe(t, s, want.but(aid, 2*x.more).in(letters([]int{aid})))
		}
	}
}

// TestChargeDrops: each charge is rounded by itself.
func TestChargeDrops(t *testing.T) {
	s := New()
	must(t, s, add, 4, 3)
	for n := range int64(100) {
		must(t, s, charge, 4, 1)
		mustBe(t, s, empty().but(4, 3333*(n+1)))
	}
}

// TestChargeOfEachWeight: with its rest, held against what is counted without bounds.
func TestChargeOfEachWeight(t *testing.T) {
	for weight := int64(1); weight <= 100; weight++ {
		for _, air := range airs() {
			s := New()
			must(t, s, add, 16, weight)
			must(t, s, charge, 16, air)
			n := new(big.Int).Mul(big.NewInt(air), big.NewInt(10000))
			mustBe(t, s, empty().but(16, n.Div(n, big.NewInt(weight)).Int64()))
		}
	}
}

func TestChargeOutOfRange(t *testing.T) {
	s, want := some(t)
	for _, aid := range []int{1, 2, 3, 9, 16} {
		for _, air := range noAirs() {
			mustRefuse(t, s, charge, aid, air, api.ErrRange)
		}
	}
	mustBe(t, s, want)
}

// TestChargeToTheTop: just below it, just to it, and past it by little and by much, active or not.
func TestChargeToTheTop(t *testing.T) {
	for _, x := range []struct{ time, weight, air, then int64 }{
		{top - 10000, 1, 0, top - 10000}, {top - 10001, 1, 1, top - 1}, {top - 10000, 1, 1, top}, {top - 9999, 1, 1, top}, {top - 1, 1, 1, top},
		{top - 10000, 1, 2, top}, {top - 1, 1, 0, top - 1}, {top, 1, 0, top}, {top, 1, 1, top}, {top, 1, limit, top}, {top - 1, 1, limit, top},
		{top - limit*10000 - 1, 1, limit, top - 1}, {top - limit*10000, 1, limit, top}, {top - limit*10000 + 1, 1, limit, top},
		{top - 3334, 3, 1, top - 1}, {top - 3333, 3, 1, top}, {top - 3332, 3, 1, top},
		{top - 101, 100, 1, top - 1}, {top - 100, 100, 1, top}, {top - 99, 100, 1, top}, {top - 1, 100, limit, top}, {top, 100, limit, top},
	} {
		for _, active := range []bool{false, true} {
			s := New()
			must(t, s, add, 16, 1)
			must(t, s, add, 1, 1)
			bring(t, s, 1, top)
			bring(t, s, 16, x.time)
			must(t, s, weigh, 16, x.weight)
			want := empty().but(1, top)
			if active {
				must(t, s, on, 16, 0)
				must(t, s, on, 1, 0)
				want = want.in("pa")
				if x.then == top {
					want = want.in("ap")
				}
			}
			must(t, s, charge, 16, x.air)
			want = want.but(16, x.then)
			mustBe(t, s, want)
			// Who is at the top already stays there.
			must(t, s, charge, 1, limit)
			mustBe(t, s, want)
		}
	}
}

// TestChargeAgainAndAgain: the greatest air many times: it comes to the top, and nothing goes round.
func TestChargeAgainAndAgain(t *testing.T) {
	s := New()
	must(t, s, add, 5, 1)
	must(t, s, on, 5, 0)
	for n := range int64(3000) {
		must(t, s, charge, 5, limit)
		want := int64(top)
		if n < 104 {
			want = limit * 10000 * (n + 1)
		}
		mustBe(t, s, empty().but(5, want).in("e"))
	}
}

// TestOrderOfOne: of each station alone.
func TestOrderOfOne(t *testing.T) {
	for aid := 1; aid <= 16; aid++ {
		s := New()
		must(t, s, add, aid, 5)
		must(t, s, on, aid, 0)
		if order := s.Order(); !slices.Equal(order, []int{aid}) {
			t.Fatal(order)
		}
	}
}

// TestOrderOfTwo: each pair, of the same time, and of one that has more.
func TestOrderOfTwo(t *testing.T) {
	for a := 1; a <= 16; a++ {
		for b := a + 1; b <= 16; b++ {
			for _, first := range []int{a, b} {
				s := New()
				must(t, s, add, a, 1)
				must(t, s, add, b, 1)
				must(t, s, on, first, 0)
				must(t, s, on, a+b-first, 0)
				mustBe(t, s, empty().but(a, 0).but(b, 0).in(letters([]int{a, b})))
				must(t, s, charge, a, 1)
				mustBe(t, s, empty().but(a, 10000).but(b, 0).in(letters([]int{b, a})))
				must(t, s, charge, b, 1)
				mustBe(t, s, empty().but(a, 10000).but(b, 10000).in(letters([]int{a, b})))
				must(t, s, charge, b, 1)
				mustBe(t, s, empty().but(a, 10000).but(b, 20000).in(letters([]int{a, b})))
			}
		}
	}
}

// TestOrderOfFive: whatever times they have, equal ones among them, in whatever way they came to be active.
func TestOrderOfFive(t *testing.T) {
	aids := []int{2, 3, 7, 10, 16}
	for n := range 4 * 4 * 4 * 4 * 4 {
		for turn := range 5 {
			s, want := New(), empty()
			for i := range aids {
				must(t, s, add, aids[(i+turn)%5], 1)
				must(t, s, on, aids[(i+turn)%5], 0)
			}
			for i, m := 0, n; i < 5; i, m = i+1, m/4 {
				must(t, s, charge, aids[i], int64(m%4))
				want = want.but(aids[i], int64(m%4)*10000)
			}
			var order []int
			for time := range int64(4) {
				for _, aid := range aids {
					if want.time[aid] == time*10000 {
						order = append(order, aid)
					}
				}
			}
			mustBe(t, s, want.in(letters(order)))
		}
	}
}

// TestRound: all sixteen, of which the first one is charged just as much each time, go round.
func TestRound(t *testing.T) {
	s, want := busy(t)
	for n := range 100 {
		aid := n%16 + 1
		if order := s.Order(); len(order) != 16 || order[0] != aid {
			t.Fatal(n, order)
		}
		must(t, s, charge, aid, 1)
		order := "abcdefghijklmnop"
		want = want.but(aid, want.time[aid]+10000).in(order[aid:] + order[:aid])
		mustBe(t, s, want)
	}
}

// TestRoundBack: the last one is charged less each time, and comes to be the first of those that were charged.
func TestRoundBack(t *testing.T) {
	s, want := busy(t)
	order := "abcdefghijklmnop"
	for aid := 16; aid >= 1; aid-- {
		must(t, s, charge, aid, int64(aid))
		want = want.but(aid, int64(aid)*10000)
		mustBe(t, s, want.in(order))
	}
	for aid := 1; aid <= 16; aid++ {
		must(t, s, charge, aid, 1000-int64(aid)*20)
		want = want.but(aid, 10000*(1000-int64(aid)*19))
	}
	mustBe(t, s, want.in("ponmlkjihgfedcba"))
}

// TestInactiveStandsNowhere: a thousand sets of the sixteen, of the same time.
func TestInactiveStandsNowhere(t *testing.T) {
	s, want := busy(t)
	all := "abcdefghijklmnop"
	for n := range 1 << 10 {
		active := n * 0x9e37 & 0xffff
		var order []byte
		for aid := 1; aid <= 16; aid++ {
			call := off
			if active>>(aid-1)&1 == 1 {
				call = on
				order = append(order, all[aid-1])
			}
			must(t, s, call, aid, 0)
		}
		mustBe(t, s, want.in(string(order)))
	}
}

// TestFair: who is charged the same air each time it is first has as many turns as it weighs.
func TestFair(t *testing.T) {
	s := New()
	weights := map[int]int64{2: 1, 5: 10, 6: 100, 16: 50}
	for aid, weight := range weights {
		must(t, s, add, aid, weight)
		must(t, s, on, aid, 0)
	}
	turns := map[int]int64{}
	for range 161 * 100 {
		aid := s.Order()[0]
		must(t, s, charge, aid, 100)
		turns[aid]++
	}
	for aid, weight := range weights {
		if turns[aid] != 100*weight {
			t.Error(turns)
		}
	}
}

// TestWhoWasAway: it has no more turns than the others, behind that; and who had more of late waits till they have as much.
func TestWhoWasAway(t *testing.T) {
	s := New()
	for _, aid := range []int{1, 2, 3} {
		must(t, s, add, aid, 1)
		must(t, s, on, aid, 0)
	}
	must(t, s, off, 1, 0)
	for range 1000 {
		must(t, s, charge, s.Order()[0], 1)
	}
	want := empty().but(1, 0).but(2, 5000000).but(3, 5000000).in("bc")
	mustBe(t, s, want)
	must(t, s, on, 1, 0)
	mustBe(t, s, want.but(1, 5000000).in("abc"))
	for range 30 {
		must(t, s, charge, s.Order()[0], 1)
	}
	mustBe(t, s, empty().but(1, 5100000).but(2, 5100000).but(3, 5100000).in("abc"))
	must(t, s, charge, 1, 5)
	must(t, s, off, 1, 0)
	must(t, s, on, 1, 0)
	mustBe(t, s, empty().but(1, 5150000).but(2, 5100000).but(3, 5100000).in("bca"))
}

// TestAsking changes nothing, and the same is answered again.
func TestAsking(t *testing.T) {
	s, want := some(t)
	for range 20 {
		mustBe(t, s, want)
		for _, aid := range noAids() {
			if n, is := s.Time(aid); n != 0 || is {
				t.Fatal(aid, n, is)
			}
		}
	}
}

// TestOrderIsNewMemory: whatever is written into it, or behind it, no other answer and no object shows.
func TestOrderIsNewMemory(t *testing.T) {
	s, want := some(t)
	b, wantAll := busy(t)
	for _, x := range []struct {
		s    *Sched
		want state
	}{{s, want}, {b, wantAll}} {
		c := x.s.Clone()
		first, second := x.s.Order(), x.s.Order()
		for i := range first[:cap(first)] {
			first[:cap(first)][i] = 99
		}
		if letters(second) != x.want.order {
			t.Error(second)
		}
		second = append(second, 5, 6, 7)
		mustBe(t, x.s, x.want)
		mustBe(t, c, x.want)
		must(t, x.s, charge, 3, 1)
		if letters(second[:len(x.want.order)]) != x.want.order {
			t.Error(second)
		}
	}
	// What is handed out stays, whatever is told behind it.
	l := b.Order()
	must(t, b, off, 9, 0)
	must(t, b, del, 1, 0)
	must(t, b, charge, 2, 1)
	if letters(l) != "abdefghijklmnopc" {
		t.Error(l)
	}
}

// TestClone: each call on one of the two is not to be seen on the other one.
func TestClone(t *testing.T) {
	for _, x := range []struct {
		call, aid int
		n         int64
		then      func(state) state
	}{
		{add, 4, 1, func(w state) state { return w.but(4, 0) }},
		{add, 15, 100, func(w state) state { return w.but(15, 0) }},
		{del, 2, 0, func(w state) state { return w.but(2, none).in("cp") }},
		{del, 3, 0, func(w state) state { return w.but(3, none).in("bp") }},
		{del, 9, 0, func(w state) state { return w.but(9, none) }},
		{on, 1, 0, func(w state) state { return w.in("cabp") }},
		{on, 9, 0, func(w state) state { return w.in("cbip") }},
		{off, 3, 0, func(w state) state { return w.in("bp") }},
		{off, 16, 0, func(w state) state { return w.in("cb") }},
		{charge, 3, 7, func(w state) state { return w.but(3, 10000).in("bcp") }},
		{charge, 3, 70, func(w state) state { return w.but(3, 100000).in("bpc") }},
		{charge, 1, 3, func(w state) state { return w.but(1, 1333) }},
	} {
		for _, side := range []int{0, 1} {
			s, want := some(t)
			two := [2]*Sched{s, s.Clone()}
			mustBe(t, two[1], want)
			must(t, two[side], x.call, x.aid, x.n)
			mustBe(t, two[side], x.then(want))
			mustBe(t, two[1-side], want)
			// What is told twice, and of a copy of a copy, is told the same.
			third := two[1-side].Clone()
			must(t, two[1-side], x.call, x.aid, x.n)
			mustBe(t, two[1-side], x.then(want))
			mustBe(t, third, want)
		}
	}
}

// TestCloneOfWeights: another weight on one side does not count on the other.
func TestCloneOfWeights(t *testing.T) {
	for _, side := range []int{0, 1} {
		s, _ := some(t)
		two := [2]*Sched{s, s.Clone()}
		must(t, two[side], weigh, 2, 1)
		must(t, two[side], weigh, 9, 50)
		mustWeigh(t, two[side], 2, 1)
		mustWeigh(t, two[side], 9, 50)
		mustWeigh(t, two[1-side], 2, 100)
		mustWeigh(t, two[1-side], 9, 1)
	}
}

// TestCloneOfTurns: two that go on by themselves: who becomes active, or leaves, does so on its side alone.
func TestCloneOfTurns(t *testing.T) {
	s, want := busy(t)
	must(t, s, off, 16, 0)
	must(t, s, off, 1, 0)
	c := s.Clone()
	must(t, s, on, 16, 0)
	must(t, c, on, 1, 0)
	mustBe(t, s, want.in("bcdefghijklmnop"))
	mustBe(t, c, want.in("abcdefghijklmno"))
	must(t, c, off, 2, 0)
	must(t, s, charge, 2, 1)
	mustBe(t, s, want.but(2, 10000).in("cdefghijklmnopb"))
	mustBe(t, c, want.in("acdefghijklmno"))
}

// step is a call, what it answers, and what is told behind it: the order, and the time of the station that was named.
type step struct {
	call, aid int
	n         int64
	answer    int
	order     string
	time      int64
}

// mustGo goes through steps that were worked out apart from the program, from the chapter's words. No step changes another
// station's time than that of the one it names.
func mustGo(t *testing.T, s *Sched, steps []step) {
	t.Helper()
	want := tell(t, s)
	for i, x := range steps {
		if err := do(s, x.call, x.aid, x.n); err != errOf(x.answer) {
			t.Fatalf("step %d: %v", i, err)
		}
		want = want.in(x.order)
		if x.aid >= 1 && x.aid <= 16 {
			want = want.but(x.aid, x.time)
		}
		if now := tell(t, s); now != want {
			t.Fatalf("step %d: is %v, not %v", i, now, want)
		}
	}
}

// TestStepsOfAll: all sixteen come and go.
func TestStepsOfAll(t *testing.T) {
	mustGo(t, New(), []step{
		{add, 16, 100, ok, "", 0},
		{add, 7, 60, ok, "", 0},
		{charge, 7, 1, ok, "", 166},
		{add, 12, 7, ok, "", 0},
		{off, 7, 0, ok, "", 166},
		{charge, 16, 13, ok, "", 1300},
		{add, 1, 3, ok, "", 0},
		{on, 7, 0, ok, "g", 166},
		{on, 12, 0, ok, "gl", 166},
		{add, 10, 60, ok, "gl", 0},
		{charge, 12, 0, ok, "gl", 166},
		{on, 7, 0, ok, "gl", 166},
		{charge, 1, 2, ok, "gl", 6666},
		{add, 14, -1, ofRange, "gl", none},
		{on, 1, 0, ok, "gla", 6666},
		{off, 1, 0, ok, "gl", 6666},
		{off, 7, 0, ok, "l", 166},
		{on, 16, 0, ok, "lp", 1300},
		{charge, 12, 20, ok, "pl", 28737},
		{on, 10, 0, ok, "jpl", 1300},
		{add, 13, 100, ok, "jpl", 0},
		{charge, 10, 19, ok, "pjl", 4466},
		{on, 1, 0, ok, "pjal", 6666},
		{on, 7, 0, ok, "gpjal", 1300},
		{charge, 7, 11, ok, "pgjal", 3133},
		{charge, 1, 20, ok, "pgjla", 73332},
		{charge, 16, 2, ok, "pgjla", 1500},
		{charge, 12, 0, ok, "pgjla", 28737},
		{add, 5, 1, ok, "pgjla", 0},
		{add, 4, 100, ok, "pgjla", 0},
		{charge, 16, 3, ok, "pgjla", 1800},
		{off, 7, 0, ok, "pjla", 3133},
		{charge, 16, 1, ok, "pjla", 1900},
		{charge, 16, 9, ok, "pjla", 2800},
		{on, 1, 0, ok, "pjla", 73332},
		{add, 9, 3, ok, "pjla", 0},
		{on, 4, 0, ok, "dpjla", 2800},
		{on, 13, 0, ok, "dmpjla", 2800},
		{on, 9, 0, ok, "dimpjla", 2800},
		{add, 14, 30, ok, "dimpjla", 0},
		{on, 14, 0, ok, "dimnpjla", 2800},
		{charge, 4, 3, ok, "imnpdjla", 3100},
		{add, 2, 1, ok, "imnpdjla", 0},
		{add, 3, 30, ok, "imnpdjla", 0},
		{charge, 12, 22, ok, "imnpdjla", 60165},
		{charge, 9, 3, ok, "mnpdjila", 12800},
		{charge, 5, 28, ok, "mnpdjila", 280000},
		{add, 7, 99, ofTwice, "mnpdjila", 3133},
		{charge, 13, limit + 2, ofRange, "mnpdjila", 2800},
		{add, 15, 30, ok, "mnpdjila", 0},
		{on, 5, 0, ok, "mnpdjilae", 280000},
		{weigh, 1, 7, ok, "mnpdjilae", 73332},
		{add, 11, 7, ok, "mnpdjilae", 0},
		{add, 8, 3, ok, "mnpdjilae", 0},
		{on, 11, 0, ok, "kmnpdjilae", 2800},
		{charge, 4, 28, ok, "kmnpjdilae", 5900},
		{off, 9, 0, ok, "kmnpjdlae", 12800},
		{weigh, 8, 1, ok, "kmnpjdlae", 0},
		{add, 6, -1, ofRange, "kmnpjdlae", none},
		{charge, 11, 19, ok, "mnpjdklae", 29942},
		{on, 5, 0, ok, "mnpjdklae", 280000},
		{weigh, 2, 1, ok, "mnpjdklae", 0},
		{charge, 13, 2, ok, "npmjdklae", 3000},
		{on, 10, 0, ok, "npmjdklae", 4466},
		{charge, 15, 19, ok, "npmjdklae", 6333},
		{on, 13, 0, ok, "npmjdklae", 3000},
		{off, 12, 0, ok, "npmjdkae", 60165},
		{charge, 14, 0, ok, "npmjdkae", 2800},
		{charge, 14, 1, ok, "pmnjdkae", 3133},
		{charge, 2, 1, ok, "pmnjdkae", 10000},
		{on, 1, 0, ok, "pmnjdkae", 73332},
		{on, 7, 0, ok, "pmgnjdkae", 3133},
		{charge, 14, 26, ok, "pmgjdnkae", 11799},
		{charge, 3, 20, ok, "pmgjdnkae", 6666},
		{charge, 16, 2, ok, "mpgjdnkae", 3000},
		{charge, 13, limit + 1, ofRange, "mpgjdnkae", 3000},
		{on, 2, 0, ok, "mpgjdbnkae", 10000},
		{add, 6, 7, ok, "mpgjdbnkae", 0},
		{charge, 8, 0, ok, "mpgjdbnkae", 0},
		{add, 15, 9, ofTwice, "mpgjdbnkae", 6333},
		{on, 8, 0, ok, "hmpgjdbnkae", 3000},
		{charge, 5, 8, ok, "hmpgjdbnkae", 360000},
		{charge, 9, 23, ok, "hmpgjdbnkae", 89466},
		{on, 7, 0, ok, "hmpgjdbnkae", 3133},
		{del, 1, 0, ok, "hmpgjdbnke", none},
		{add, 9, 2, ofTwice, "hmpgjdbnke", 89466},
		{off, 4, 0, ok, "hmpgjbnke", 5900},
		{charge, 8, 13, ok, "mpgjbnkhe", 133000},
		{charge, 13, 6, ok, "pgmjbnkhe", 3600},
		{charge, 16, 16, ok, "gmjpbnkhe", 4600},
		{charge, 5, 23, ok, "gmjpbnkhe", 590000},
		{weigh, 13, 9, ok, "gmjpbnkhe", 3600},
		{charge, 7, 10, ok, "mjpgbnkhe", 4799},
		{charge, 13, 1, ok, "jpmgbnkhe", 4711},
		{charge, 7, 27, ok, "jpmgbnkhe", 9299},
		{charge, 6, 1, ok, "jpmgbnkhe", 1428},
		{charge, 10, 3, ok, "pmjgbnkhe", 4966},
		{weigh, 2, 255, ofRange, "pmjgbnkhe", 10000},
		{charge, 16, 2, ok, "mpjgbnkhe", 4800},
		{charge, 11, 3, ok, "mpjgbnkhe", 34227},
		{charge, 10, 23, ok, "mpjgbnkhe", 8799},
		{charge, 4, 1, ok, "mpjgbnkhe", 6000},
		{off, 13, 0, ok, "pjgbnkhe", 4711},
		{off, 2, 0, ok, "pjgnkhe", 10000},
		{charge, 16, 3, ok, "pjgnkhe", 5100},
		{on, 6, 0, ok, "fpjgnkhe", 5100},
		{charge, 6, 11, ok, "pjgnfkhe", 20814},
		{on, 4, 0, ok, "pdjgnfkhe", 6000},
		{charge, 14, 8, ok, "pdjgnfkhe", 14465},
		{charge, 8, 1, ok, "pdjgnfkhe", 143000},
		{charge, 12, 17, ok, "pdjgnfkhe", 84450},
		{on, 16, 0, ok, "pdjgnfkhe", 5100},
		{on, 13, 0, ok, "mpdjgnfkhe", 5100},
		{weigh, 10, 99, ok, "mpdjgnfkhe", 8799},
		{charge, 13, 17, ok, "pdjgnfmkhe", 23988},
		{off, 5, 0, ok, "pdjgnfmkh", 590000},
		{on, 15, 0, ok, "pdojgnfmkh", 6333},
		{del, 16, 0, ok, "dojgnfmkh", none},
		{del, 4, 0, ok, "ojgnfmkh", none},
		{on, 11, 0, ok, "ojgnfmkh", 34227},
		{charge, 15, 11, ok, "jgonfmkh", 9999},
		{charge, 10, 1, ok, "jgonfmkh", 8900},
		{off, 7, 0, ok, "jonfmkh", 9299},
		{charge, 8, 3, ok, "jonfmkh", 173000},
		{charge, 8, 24, ok, "jonfmkh", 413000},
		{charge, 10, 1, ok, "jonfmkh", 9001},
		{on, 5, 0, ok, "jonfmkhe", 590000},
		{on, 7, 0, ok, "jgonfmkhe", 9299},
		{charge, 6, 23, ok, "jgonmkfhe", 53671},
		{del, 10, 0, ok, "gonmkfhe", none},
		{off, 6, 0, ok, "gonmkhe", 53671},
		{charge, 7, 3, ok, "gonmkhe", 9799},
		{weigh, 7, 9, ok, "gonmkhe", 9799},
		{charge, 7, 22, ok, "onmkghe", 34243},
		{charge, 15, 1, ok, "onmkghe", 10332},
		{on, 7, 0, ok, "onmkghe", 34243},
		{add, 4, 30, ok, "onmkghe", 0},
		{charge, 12, 16, ok, "onmkghe", 107307},
		{charge, 15, 0, ok, "onmkghe", 10332},
		{charge, 7, 3, ok, "onmkghe", 37576},
		{charge, 12, 2, ok, "onmkghe", 110164},
		{charge, 15, 8, ok, "onmkghe", 12998},
		{charge, 5, 1, ok, "onmkghe", 600000},
		{weigh, 12, 101, ofRange, "onmkghe", 110164},
		{del, 15, 0, ok, "nmkghe", none},
		{add, 15, 7, ok, "nmkghe", 0},
		{on, 14, 0, ok, "nmkghe", 14465},
		{charge, 14, 18, ok, "nmkghe", 20465},
		{charge, 14, 29, ok, "mnkghe", 30131},
		{weigh, 15, 60, ok, "mnkghe", 0},
		{add, 16, 3, ok, "mnkghe", 0},
		{charge, 13, 29, ok, "nkgmhe", 56210},
		{charge, 14, 17, ok, "kngmhe", 35797},
		{on, 15, 0, ok, "kongmhe", 34227},
		{charge, 6, limit + 1, ofRange, "kongmhe", 53671},
		{charge, 2, 1, ok, "kongmhe", 20000},
		{charge, 11, 22, ok, "ongmkhe", 65655},
		{charge, 15, 2, ok, "ongmkhe", 34560},
		{charge, 15, -1, ofRange, "ongmkhe", 34560},
		{charge, 15, 2, ok, "ongmkhe", 34893},
		{add, 1, 100, ok, "ongmkhe", 0},
		{charge, 15, 3, ok, "ongmkhe", 35393},
		{on, 12, 0, ok, "ongmklhe", 110164},
		{on, 9, 0, ok, "ongmkilhe", 89466},
		{add, 10, 99, ok, "ongmkilhe", 0},
		{charge, 15, 2, ok, "ongmkilhe", 35726},
		{weigh, 14, 101, ofRange, "ongmkilhe", 35797},
		{charge, 15, 2, ok, "nogmkilhe", 36059},
		{off, 5, 0, ok, "nogmkilh", 600000},
		{charge, 14, 2, ok, "ongmkilh", 36463},
		{charge, 15, 1, ok, "ongmkilh", 36225},
		{on, 6, 0, ok, "ongfmkilh", 53671},
		{charge, 15, 2, ok, "nogfmkilh", 36558},
		{charge, 11, 2, ok, "nogfmkilh", 68512},
		{charge, 14, 2, ok, "ongfmkilh", 37129},
		{charge, 15, 2, ok, "ongfmkilh", 36891},
		{charge, 15, 8, ok, "ngofmkilh", 38224},
		{on, 1, 0, ok, "angofmkilh", 37129},
		{charge, 16, 3, ok, "angofmkilh", 10000},
		{off, 9, 0, ok, "angofmklh", 89466},
		{on, 5, 0, ok, "angofmklhe", 600000},
		{on, 13, 0, ok, "angofmklhe", 56210},
		{charge, 11, 16, ok, "angofmklhe", 91369},
		{del, 12, 0, ok, "angofmkhe", none},
		{on, 4, 0, ok, "adngofmkhe", 37129},
		{del, 6, 0, ok, "adngomkhe", none},
		{charge, 8, 12, ok, "adngomkhe", 533000},
		{charge, 8, 0, ok, "adngomkhe", 533000},
		{off, 1, 0, ok, "dngomkhe", 37129},
		{off, 9, 0, ok, "dngomkhe", 89466},
		{on, 10, 0, ok, "djngomkhe", 37129},
		{charge, 4, 29, ok, "jngodmkhe", 46795},
		{weigh, 15, 3, ok, "jngodmkhe", 38224},
		{on, 9, 0, ok, "jngodmikhe", 89466},
		{on, 10, 0, ok, "jngodmikhe", 37129},
		{charge, 10, 0, ok, "jngodmikhe", 37129},
		{off, 13, 0, ok, "jngodikhe", 56210},
		{del, 10, 0, ok, "ngodikhe", none},
		{on, 7, 0, ok, "ngodikhe", 37576},
		{charge, 8, 3, ok, "ngodikhe", 563000},
		{on, 3, 0, ok, "cngodikhe", 37129},
		{charge, 16, 3, ok, "cngodikhe", 20000},
		{off, 4, 0, ok, "cngoikhe", 46795},
		{charge, 7, 2, ok, "cnogikhe", 39798},
		{del, 3, 0, ok, "nogikhe", none},
		{charge, 14, 1, ok, "nogikhe", 37462},
		{charge, 14, 1, ok, "nogikhe", 37795},
		{off, 8, 0, ok, "nogike", 563000},
		{del, 14, 0, ok, "ogike", none},
		{add, 16, 30, ofTwice, "ogike", 20000},
		{on, 15, 0, ok, "ogike", 38224},
		{charge, 7, 3, ok, "ogike", 43131},
		{charge, 15, 10, ok, "goike", 71557},
		{add, 10, 1, ok, "goike", 0},
		{charge, 11, 25, ok, "goike", 127083},
		{charge, 7, 8, ok, "goike", 52019},
		{on, 12, 0, ofNone, "goike", none},
		{on, 8, 0, ok, "goikhe", 563000},
		{charge, 7, 1, ok, "goikhe", 53130},
		{off, 11, 0, ok, "goihe", 127083},
		{charge, 4, 1, ok, "goihe", 47128},
		{off, 7, 0, ok, "oihe", 53130},
		{charge, 4, 1, ok, "oihe", 47461},
		{del, 8, 0, ok, "oie", none},
		{charge, 15, 2, ok, "oie", 78223},
		{charge, 15, 2, ok, "oie", 84889},
		{on, 7, 0, ok, "goie", 84889},
		{charge, 1, 2, ok, "goie", 37329},
		{charge, 2, 9, ok, "goie", 110000},
		{on, 11, 0, ok, "goike", 127083},
		{on, 16, 0, ok, "gopike", 84889},
		{charge, 7, 1, ok, "opgike", 86000},
		{on, 2, 0, ok, "opgibke", 110000},
		{on, 10, 0, ok, "jopgibke", 84889},
		{on, 13, 0, ok, "jmopgibke", 84889},
		{off, 7, 0, ok, "jmopibke", 86000},
		{charge, 16, 7, ok, "jmoipbke", 108222},
		{on, 1, 0, ok, "ajmoipbke", 84889},
		{off, 2, 0, ok, "ajmoipke", 110000},
		{charge, 2, 3, ok, "ajmoipke", 140000},
	})
}

// TestStepsOfFew: four stations, often the same.
func TestStepsOfFew(t *testing.T) {
	mustGo(t, New(), []step{
		{charge, 9, 17, ofNone, "", none},
		{on, 16, 0, ofNone, "", none},
		{on, 2, 0, ofNone, "", none},
		{charge, 16, limit + 1, ofNone, "", none},
		{charge, 2, 1, ofNone, "", none},
		{add, 16, 1, ok, "", 0},
		{on, 2, 0, ofNone, "", none},
		{add, 2, 30, ok, "", 0},
		{on, 2, 0, ok, "b", 0},
		{on, 16, 0, ok, "bp", 0},
		{add, 1, 9, ok, "bp", 0},
		{add, 9, 100, ok, "bp", 0},
		{charge, 9, 2, ok, "bp", 200},
		{del, 2, 0, ok, "p", none},
		{off, 16, 0, ok, "", 0},
		{charge, 9, 1, ok, "", 300},
		{on, 9, 0, ok, "i", 300},
		{add, 2, 3, ok, "i", 0},
		{charge, 9, limit + 2, ofRange, "i", 300},
		{charge, 16, 11, ok, "i", 110000},
		{add, 9, 1, ofTwice, "i", 300},
		{charge, 9, 18, ok, "i", 2100},
		{on, 16, 0, ok, "ip", 110000},
		{on, 2, 0, ok, "bip", 2100},
		{off, 9, 0, ok, "bp", 2100},
		{on, 9, 0, ok, "bip", 2100},
		{add, 16, 60, ofTwice, "bip", 110000},
		{on, 16, 0, ok, "bip", 110000},
		{charge, 2, 28, ok, "ibp", 95433},
		{on, 1, 0, ok, "aibp", 2100},
		{del, 1, 0, ok, "ibp", none},
		{add, 1, 30, ok, "ibp", 0},
		{on, 1, 0, ok, "aibp", 2100},
		{charge, 9, 10, ok, "aibp", 3100},
		{off, 9, 0, ok, "abp", 3100},
		{charge, 2, 20, ok, "apb", 162099},
		{on, 9, 0, ok, "aipb", 3100},
		{add, 16, 60, ofTwice, "aipb", 110000},
		{add, 16, 100, ofTwice, "aipb", 110000},
		{on, 9, 0, ok, "aipb", 3100},
		{add, 9, 1, ofTwice, "aipb", 3100},
		{add, 2, -1, ofRange, "aipb", 162099},
		{on, 2, 0, ok, "aipb", 162099},
		{on, 1, 0, ok, "aipb", 2100},
		{on, 1, 0, ok, "aipb", 2100},
		{charge, 1, 1, ok, "aipb", 2433},
		{on, 16, 0, ok, "aipb", 110000},
		{add, 16, 7, ofTwice, "aipb", 110000},
		{charge, 9, 2, ok, "aipb", 3300},
		{charge, 16, 14, ok, "aibp", 250000},
		{add, 1, 7, ofTwice, "aibp", 2433},
		{on, 1, 0, ok, "aibp", 2433},
		{add, 16, 3, ofTwice, "aibp", 250000},
		{weigh, 16, 2, ok, "aibp", 250000},
		{add, 2, 1, ofTwice, "aibp", 162099},
		{add, 1, 30, ofTwice, "aibp", 2433},
		{on, 9, 0, ok, "aibp", 3300},
		{on, 9, 0, ok, "aibp", 3300},
		{add, 2, 7, ofTwice, "aibp", 162099},
		{charge, 1, 21, ok, "iabp", 9433},
		{add, 1, 99, ofTwice, "iabp", 9433},
		{off, 16, 0, ok, "iab", 250000},
		{charge, 9, 16, ok, "iab", 4900},
		{off, 9, 0, ok, "ab", 4900},
		{charge, 9, 2, ok, "ab", 5100},
		{off, 1, 0, ok, "b", 9433},
		{off, 9, 0, ok, "b", 5100},
		{charge, 2, 28, ok, "b", 255432},
		{weigh, 9, 0, ofRange, "b", 5100},
		{del, 2, 0, ok, "", none},
		{off, 1, 0, ok, "", 9433},
		{add, 2, 100, ok, "", 0},
		{on, 1, 0, ok, "a", 9433},
		{on, 1, 0, ok, "a", 9433},
		{on, 16, 0, ok, "ap", 250000},
		{del, 9, 0, ok, "ap", none},
		{charge, 1, 16, ok, "ap", 14766},
		{on, 2, 0, ok, "abp", 14766},
		{charge, 1, 26, ok, "bap", 23432},
		{charge, 2, 2, ok, "bap", 14966},
		{weigh, 2, 60, ok, "bap", 14966},
		{on, 2, 0, ok, "bap", 14966},
		{add, 9, 30, ok, "bap", 0},
		{add, 9, 1, ofTwice, "bap", 0},
		{del, 16, 0, ok, "ba", none},
		{charge, 2, 26, ok, "ba", 19299},
		{on, 2, 0, ok, "ba", 19299},
		{add, 16, 9, ok, "ba", 0},
		{add, 1, 2, ofTwice, "ba", 23432},
		{charge, 2, 2, ok, "ba", 19632},
		{charge, 2, 26, ok, "ab", 23965},
		{charge, 1, limit + 1, ofRange, "ab", 23432},
		{weigh, 16, 1, ok, "ab", 0},
		{off, 1, 0, ok, "b", 23432},
		{charge, 2, 28, ok, "b", 28631},
		{weigh, 16, 101, ofRange, "b", 0},
		{on, 9, 0, ok, "bi", 28631},
		{charge, 16, 0, ok, "bi", 0},
		{del, 2, 0, ok, "i", none},
		{charge, 9, 0, ok, "i", 28631},
	})
}

// TestStepsToTheTop: three stations, that had much already.
func TestStepsToTheTop(t *testing.T) {
	s := New()
	for _, aid := range []int{3, 4, 16} {
		must(t, s, add, aid, 1)
		for range 100 {
			must(t, s, charge, aid, limit)
		}
	}
	mustGo(t, s, []step{
		{off, 4, 0, ok, "", 1099511627776000000},
		{charge, 3, limit - 2, ok, "", 1110506744053740000},
		{on, 3, 0, ok, "c", 1110506744053740000},
		{charge, 3, 84577817521, ok, "c", 1111352522228950000},
		{on, 4, 0, ok, "cd", 1111352522228950000},
		{charge, 3, 274877906944, ok, "dc", 1114101301298390000},
		{charge, 16, limit, ok, "dc", 1110506744053760000},
		{on, 16, 0, ok, "dpc", 1111352522228950000},
		{charge, 4, limit, ok, "pcd", 1122347638506710000},
		{charge, 16, 122167958641, ok, "pcd", 1112574201815360000},
		{charge, 3, 91625968981, ok, "pcd", 1115017560988200000},
		{on, 3, 0, ok, "pcd", 1115017560988200000},
		{weigh, 16, 2, ok, "pcd", 1112574201815360000},
		{charge, 4, limit + 1, ofRange, "pcd", 1122347638506710000},
		{charge, 3, limit, ok, "pdc", 1126012677265960000},
		{add, 4, 2, ofTwice, "pdc", 1122347638506710000},
		{charge, 16, limit, ok, "pdc", 1118071759954240000},
		{charge, 4, 73300775185, ok, "pdc", 1123080646258560000},
		{charge, 16, 549755813888, ok, "pdc", 1120820539023680000},
		{charge, 4, 183251937962, ok, "pdc", 1124913165638180000},
		{on, 3, 0, ok, "pdc", 1126012677265960000},
		{on, 4, 0, ok, "pdc", 1124913165638180000},
		{on, 3, 0, ok, "pdc", 1126012677265960000},
		{charge, 16, 549755813888, ok, "pdc", 1123569318093120000},
		{charge, 16, 91625968981, ok, "pdc", 1124027447938025000},
		{off, 4, 0, ok, "pc", 1124913165638180000},
		{on, 16, 0, ok, "pc", 1124027447938025000},
		{off, 3, 0, ok, "p", 1126012677265960000},
		{off, 16, 0, ok, "", 1124027447938025000},
		{charge, 16, 1, ok, "", 1124027447938030000},
		{charge, 3, 366503875925, ok, "", 1129677716025210000},
		{charge, 3, limit - 1, ok, "", 1140672832302960000},
		{charge, 3, limit - 2, ok, "", 1151667948580700000},
		{charge, 16, 109951162777, ok, "", 1124577203751915000},
		{charge, 16, 0, ok, "", 1124577203751915000},
		{charge, 16, limit, ok, "", 1130074761890795000},
		{charge, 3, limit + 1, ofRange, "", 1151667948580700000},
		{off, 3, 0, ok, "", 1151667948580700000},
		{off, 3, 0, ok, "", 1151667948580700000},
		{charge, 4, limit, ok, "", 1135908281915940000},
		{charge, 3, 109951162777, ok, "", 1152767460208470000},
		{on, 16, 0, ok, "p", 1130074761890795000},
		{charge, 3, limit, ok, "p", top},
		{charge, 16, 1, ok, "p", 1130074761890800000},
		{charge, 16, 68719476736, ok, "p", 1130418359274480000},
		{weigh, 16, 2, ok, "p", 1130418359274480000},
		{charge, 16, limit, ok, "p", 1135915917413360000},
		{del, 16, 0, ok, "", none},
		{off, 3, 0, ok, "", top},
		{charge, 3, limit, ok, "", top},
		{on, 4, 0, ok, "d", 1135908281915940000},
		{weigh, 3, 1, ok, "d", top},
		{charge, 4, limit, ok, "d", 1146903398193700000},
		{charge, 16, limit - 1, ofNone, "d", none},
		{on, 3, 0, ok, "dc", top},
		{on, 4, 0, ok, "dc", 1146903398193700000},
		{charge, 4, limit, ok, "cd", top},
		{charge, 3, 0, ok, "cd", top},
		{on, 4, 0, ok, "cd", top},
		{on, 4, 0, ok, "cd", top},
	})
}

// rival keeps who is there in a list, by when they came, and numbers without bounds, and looks for each one anew.
type rival []known

type known struct {
	aid    int
	weight int64
	time   *big.Int
	active bool
}

func (r rival) find(aid int) *known {
	for i := range r {
		if r[i].aid == aid {
			return &r[i]
		}
	}
	return nil
}

func (r rival) before(a, b *known) bool {
	c := a.time.Cmp(b.time)
	return c < 0 || c == 0 && a.aid < b.aid
}

// order is by how many others stand ahead of each.
func (r rival) order() string {
	var order [16]byte
	n := 0
	for i := range r {
		if !r[i].active {
			continue
		}
		ahead := 0
		for j := range r {
			if r[j].active && r.before(&r[j], &r[i]) {
				ahead++
			}
		}
		order[ahead] = byte('a' + r[i].aid - 1)
		n++
	}
	return string(order[:n])
}

func (r rival) activate(k *known, active bool) {
	if active && !k.active && r.order() != "" {
		if least := r.find(int(r.order()[0]-'a') + 1).time; least.Cmp(k.time) > 0 {
			k.time = least
		}
	}
	k.active = active
}

func (k *known) charge(air int64) {
	n := new(big.Int).Mul(big.NewInt(air), big.NewInt(10000))
	n.Add(n.Div(n, big.NewInt(k.weight)), k.time)
	if n.Cmp(big.NewInt(top)) > 0 {
		n.SetInt64(top)
	}
	k.time = n
}

func (r *rival) add(aid int, weight int64) error {
	if aid < 1 || aid > 16 || weight < 1 || weight > 100 {
		return api.ErrRange
	}
	if r.find(aid) != nil {
		return api.ErrTwice
	}
	*r = append(*r, known{aid, weight, new(big.Int), false})
	return nil
}

func (r *rival) do(call, aid int, n int64) error {
	if call == add {
		return r.add(aid, n)
	}
	k := r.find(aid)
	switch {
	case k == nil:
		return api.ErrNone
	case call == weigh && (n < 1 || n > 100), call == charge && (n < 0 || n > limit):
		return api.ErrRange
	case call == del:
		*r = slices.DeleteFunc(*r, func(k known) bool { return k.aid == aid })
	case call == weigh:
		k.weight = n
	case call == charge:
		k.charge(n)
	default:
		r.activate(k, call == on)
	}
	return nil
}

func (r rival) state() state {
	s := empty()
	for _, k := range r {
		s = s.but(k.aid, k.time.Int64())
	}
	return s.in(r.order())
}

func mustDoAsRival(t *testing.T, s *Sched, r *rival, call, aid int, n int64) error {
	t.Helper()
	err, err2 := do(s, call, aid, n), r.do(call, aid, n)
	if err != err2 {
		t.Fatalf("call %d of %d, %d: %v, not %v", call, aid, n, err, err2)
	}
	mustBe(t, s, r.state())
	return err
}

// dice is numbers that look like thrown ones, the same each time.
type dice uint64

func (d *dice) throw() uint64 {
	*d += 0x9e3779b97f4a7c15
	x := uint64(*d)
	x = (x ^ x>>30) * 0xbf58476d1ce4e5b9
	x = (x ^ x>>27) * 0x94d049bb133111eb
	return x ^ x>>31
}

func (d *dice) below(n int) int { return int(d.throw() % uint64(n)) }

// aid is one of those that this course is about mostly, any of them, or none.
func (d *dice) aid(about []int) int {
	switch d.below(20) {
	case 0:
		return noAids()[d.below(len(noAids()))]
	case 1:
		return 1 + d.below(16)
	}
	return about[d.below(len(about))]
}

// number is a weight or an air for that call.
func (d *dice) number(call int, much bool) int64 {
	wrong := d.below(16) == 0
	switch {
	case call == charge && wrong:
		return noAirs()[d.below(len(noAirs()))]
	case call == charge && much:
		return airs()[d.below(len(airs()))]
	case call == charge:
		return int64(d.below(4) * d.below(30))
	case wrong:
		return int64(noWeights()[d.below(len(noWeights()))])
	}
	return []int64{1, 1, 2, 3, 7, 30, 99, 100}[d.below(8)]
}

// TestModel: long courses, of one and of copies of it, each step held against the rival.
func TestModel(t *testing.T) {
	errs := map[error]int{}
	full, tied, topped := 0, 0, 0
	for seed := range 400 {
		d := dice(seed)
		about := [][]int{{1, 2, 3, 4, 5, 6, 7, 8, 9, 10, 11, 12, 13, 14, 15, 16}, {1, 2, 8, 15, 16}, {3, 4}}[d.below(3)]
		s, r := New(), rival{}
		much := seed%4 == 0
		for _, aid := range about {
			mustDoAsRival(t, s, &r, add, aid, 1)
			for range 100 {
				if much {
					mustDoAsRival(t, s, &r, charge, aid, limit)
				}
			}
		}
		s2, r2 := s.Clone(), slices.Clone(r)
		for range 300 {
			switch roll := d.below(32); roll {
			case 0:
				s2, r2 = s.Clone(), slices.Clone(r)
			case 1:
				s, r, s2, r2 = s2, r2, s, r
			default:
				call := []int{add, add, del, weigh, weigh, on, on, on, on, on, on, on, on, on, off, off, off, off}[d.below(18)]
				if roll > 16 {
					call = charge
				}
				errs[mustDoAsRival(t, s, &r, call, d.aid(about), d.number(call, much))]++
			}
			mustBe(t, s2, r2.state())
			now := r.state()
			if len(now.order) >= 10 {
				full++
			}
			if len(now.order) > 1 && now.time[now.order[0]-'a'+1] == now.time[now.order[1]-'a'+1] {
				tied++
			}
			if len(now.order) > 0 && now.time[now.order[len(now.order)-1]-'a'+1] == top {
				topped++
			}
		}
	}
	// The courses have to have come to what they are for.
	if errs[nil] < 50000 || errs[api.ErrRange] < 1000 || errs[api.ErrTwice] < 1000 || errs[api.ErrNone] < 1000 || full < 1000 || tied < 1000 || topped < 1000 {
		t.Error(errs, full, tied, topped)
	}
}

// FuzzSched: a course of any bytes, held against the rival.
func FuzzSched(f *testing.F) {
	f.Add([]byte{})
	f.Add([]byte{0x07, 1, 0x08, 7, 0x67, 0, 0x68, 0, 0xa7, 1, 0xa8, 2, 0x28, 0, 0xc0, 0xa7, 250, 0xe0, 0x87, 0})
	f.Add([]byte{0x0f, 100, 0x10, 99, 0x6f, 0, 0xaf, 255, 0xaf, 254, 0x70, 0, 0x4f, 3, 0x4f, 101, 0xbf, 3, 0x1f, 3})
	f.Fuzz(func(t *testing.T, b []byte) {
		s, r := New(), rival{}
		s2, r2 := s.Clone(), slices.Clone(r)
		next := func() (n byte) {
			if len(b) > 0 {
				n, b = b[0], b[1:]
			}
			return n
		}
		for len(b) > 0 {
			op := next()
			aid := int(op&31) - 6
			switch op >> 5 {
			case 6:
				s2, r2 = s.Clone(), slices.Clone(r)
			case 7:
				s, r, s2, r2 = s2, r2, s, r
			case charge:
				mustDoAsRival(t, s, &r, charge, aid, airOf(next()))
			default:
				mustDoAsRival(t, s, &r, int(op>>5), aid, int64(int8(next())))
			}
			mustBe(t, s, r.state())
			mustBe(t, s2, r2.state())
		}
	})
}

// airOf is small ones, and about the greatest one, and none that may be.
func airOf(n byte) int64 {
	switch {
	case n < 150:
		return int64(n)
	case n < 220:
		return limit - 210 + int64(n)
	}
	return 1<<(n-192) - 1
}
