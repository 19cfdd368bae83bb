package aql

import (
	"math"
	"math/big"
	"math/bits"
	"testing"

	"muezzin/api"
)

// limit is the chapter's 2^40, apart from the program's.
const limit = 1 << 40

// noAids is what is no station's number.
func noAids() []int {
	l := []int{0, -1, -16, -17, 17, 18, 32, 33, 255, 257, 65537, api.MaxAID, math.MinInt, math.MinInt + 1, math.MaxInt}
	if one := 1; bits.UintSize == 64 {
		// A half of it would be one.
		l = append(l, one<<32+1)
	}
	return l
}

// noAmounts is what may not be told as a limit, or as air.
func noAmounts() []int64 {
	return []int64{-1, -2, -limit, limit + 1, limit + 2, 2 * limit, 1 << 62, math.MinInt64, math.MinInt64 + 1, math.MinInt64 + limit, math.MaxInt64}
}

// amounts is what may be, from end to end.
func amounts() []int64 {
	return []int64{0, 1, 2, 3, 1 << 16, 1<<31 - 1, 1 << 31, 1<<32 - 1, 1 << 32, limit / 2, limit - 2, limit - 1, limit}
}

// state is what May, Of and All tell: of a station at its number.
type state struct {
	may [17]bool
	of  [17]int64
	all int64
}

// idle is the state of one that has nothing under way.
func idle() state {
	var s state
	for aid := 1; aid <= 16; aid++ {
		s.may[aid] = true
	}
	return s
}

// with is the state with that under way of one station, of which more may not come.
func (s state) with(aid int, of int64) state {
	s.all += of - s.of[aid]
	s.of[aid] = of
	s.may[aid] = false
	return s
}

// yet is the state with that under way of one station, of which more may come.
func (s state) yet(aid int, of int64) state {
	s = s.with(aid, of)
	s.may[aid] = true
	return s
}

func tell(l *Limit) state {
	s := state{all: l.All()}
	for aid := range s.of {
		s.may[aid], s.of[aid] = l.May(aid), l.Of(aid)
	}
	return s
}

func mustBe(t *testing.T, l *Limit, want state) {
	t.Helper()
	if s := tell(l); s != want {
		t.Fatalf("is %v, not %v", s, want)
	}
}

func mustNew(t *testing.T, station, all int64) *Limit {
	t.Helper()
	l, err := New(station, all)
	if err != nil || l == nil {
		t.Fatalf("New(%d, %d): %v %v", station, all, l, err)
	}
	return l
}

func mustAdd(t *testing.T, l *Limit, aid int, air int64) {
	t.Helper()
	if err := l.Add(aid, air); err != nil {
		t.Fatalf("Add(%d, %d): %v", aid, air, err)
	}
}

func mustSub(t *testing.T, l *Limit, aid int, air int64) {
	t.Helper()
	if err := l.Sub(aid, air); err != nil {
		t.Fatalf("Sub(%d, %d): %v", aid, air, err)
	}
}

// mustRefuse asks what an Add and a Sub answer, and that nothing changes.
func mustRefuse(t *testing.T, l *Limit, aid int, air int64, add, sub error) {
	t.Helper()
	s := tell(l)
	if add != nil {
		if err := l.Add(aid, air); err != add {
			t.Fatalf("Add(%d, %d): %v, not %v", aid, air, err, add)
		}
		mustBe(t, l, s)
	}
	if err := l.Sub(aid, air); err != sub {
		t.Fatalf("Sub(%d, %d): %v, not %v", aid, air, err, sub)
	}
	mustBe(t, l, s)
}

// some is one with limits of 20 and 60, and something of five stations.
func some(t *testing.T) (*Limit, state) {
	t.Helper()
	l := mustNew(t, 20, 60)
	mustAdd(t, l, 1, 19)
	mustAdd(t, l, 2, 20)
	mustAdd(t, l, 7, 1)
	mustAdd(t, l, 15, 7)
	mustAdd(t, l, 16, 12)
	s := idle().yet(1, 19).with(2, 20).yet(7, 1).yet(15, 7).yet(16, 12)
	mustBe(t, l, s)
	return l, s
}

func TestNew(t *testing.T) {
	for _, station := range amounts() {
		for _, all := range amounts() {
			mustBe(t, mustNew(t, station, all), idle())
		}
	}
}

func TestNewOutOfRange(t *testing.T) {
	refuse := func(station, all int64) {
		if l, err := New(station, all); l != nil || err != api.ErrRange {
			t.Error(station, all, l, err)
		}
	}
	for _, wrong := range noAmounts() {
		for _, right := range amounts() {
			refuse(wrong, right)
			refuse(right, wrong)
		}
		for _, other := range noAmounts() {
			refuse(wrong, other)
		}
	}
}

// TestNewTellsLimitsApart: which is a station's and which is that of all.
func TestNewTellsLimitsApart(t *testing.T) {
	l := mustNew(t, 5, 9)
	mustAdd(t, l, 3, 5)
	mustBe(t, l, idle().with(3, 5))
	mustAdd(t, l, 4, 4)
	mustBe(t, l, idle().with(3, 5).with(4, 4))
	l = mustNew(t, 9, 5)
	mustAdd(t, l, 3, 4)
	mustBe(t, l, idle().yet(3, 4))
	mustAdd(t, l, 4, 1)
	mustBe(t, l, idle().with(3, 4).with(4, 1))
}

// TestNone: of what is no station, whatever is under way.
func TestNone(t *testing.T) {
	busy, _ := some(t)
	for _, l := range []*Limit{mustNew(t, 0, 0), mustNew(t, 20, 60), mustNew(t, limit, limit), busy} {
		s := tell(l)
		for _, aid := range noAids() {
			if l.May(aid) || l.Of(aid) != 0 {
				t.Fatal(aid, l.May(aid), l.Of(aid))
			}
			for _, air := range append(amounts(), noAmounts()...) {
				mustRefuse(t, l, aid, air, api.ErrRange, api.ErrRange)
			}
			l.Clear(aid)
			mustBe(t, l, s)
		}
	}
}

// TestMayAtStationLimit: just below it, at it, above it, of each station alone.
func TestMayAtStationLimit(t *testing.T) {
	for aid := 1; aid <= 16; aid++ {
		for _, station := range amounts()[2:] {
			l := mustNew(t, station, limit)
			mustAdd(t, l, aid, station-1)
			mustBe(t, l, idle().yet(aid, station-1))
			mustAdd(t, l, aid, 1)
			mustBe(t, l, idle().with(aid, station))
			mustAdd(t, l, aid, 1)
			mustBe(t, l, idle().with(aid, station+1))
			mustSub(t, l, aid, 2)
			mustBe(t, l, idle().yet(aid, station-1))
		}
	}
}

// TestMayAtLimitOfAll: just below it, at it, above it; who has nothing may all the same.
func TestMayAtLimitOfAll(t *testing.T) {
	for one := 1; one <= 16; one++ {
		other := one%16 + 1
		for _, all := range amounts()[3:] {
			l := mustNew(t, limit, all)
			mustAdd(t, l, one, 1)
			mustAdd(t, l, other, all-2)
			below := idle().yet(one, 1).yet(other, all-2)
			mustBe(t, l, below)
			mustAdd(t, l, one, 1)
			mustBe(t, l, idle().with(one, 2).with(other, all-2))
			mustAdd(t, l, one, 1)
			mustBe(t, l, idle().with(one, 3).with(other, all-2))
			mustSub(t, l, one, 2)
			mustBe(t, l, below)
			mustSub(t, l, one, 1)
			mustBe(t, l, idle().yet(other, all-2))
		}
	}
}

// TestMayWithAllAtTheirLimit: sixteen stations, one by one to theirs, and past that of all.
func TestMayWithAllAtTheirLimit(t *testing.T) {
	l := mustNew(t, 10, 60)
	want := idle()
	for aid := 1; aid <= 16; aid++ {
		mustAdd(t, l, aid, 9)
		// Who is below its own limit waits for that of all alone: 7 times 9 is above it, 6 times is not.
		want = want.with(aid, 9)
		for n := 1; n <= aid; n++ {
			want.may[n] = aid <= 6
		}
		mustBe(t, l, want)
	}
	for aid := 16; aid >= 1; aid-- {
		mustAdd(t, l, aid, 1)
		want = want.with(aid, 10)
		mustBe(t, l, want)
	}
	// Of one of which nothing is any more, more may come, though of all there are 150.
	for aid := 1; aid <= 16; aid++ {
		mustSub(t, l, aid, 10)
		mustBe(t, l, want.yet(aid, 0))
		mustAdd(t, l, aid, 10)
		mustBe(t, l, want)
		l.Clear(aid)
		mustBe(t, l, want.yet(aid, 0))
		mustAdd(t, l, aid, 10)
	}
}

// TestNoRoomForStations: with a limit of 0, one may while nothing of it is under way.
func TestNoRoomForStations(t *testing.T) {
	l := mustNew(t, 0, limit)
	want := idle()
	for aid := 1; aid <= 16; aid++ {
		mustAdd(t, l, aid, 0)
		mustBe(t, l, want)
		mustAdd(t, l, aid, 1)
		want = want.with(aid, 1)
		mustBe(t, l, want)
	}
	for aid := 1; aid <= 16; aid++ {
		mustSub(t, l, aid, 1)
		want = want.yet(aid, 0)
		mustBe(t, l, want)
	}
}

// TestNoRoomForAll: with a limit of all of 0, each may while nothing of it is under way.
func TestNoRoomForAll(t *testing.T) {
	for _, station := range amounts() {
		l := mustNew(t, station, 0)
		want := idle()
		for aid := 1; aid <= 16; aid++ {
			mustAdd(t, l, aid, 1)
			want = want.with(aid, 1)
			mustBe(t, l, want)
		}
		l.Clear(9)
		mustBe(t, l, want.yet(9, 0))
	}
}

// TestLimitsAreAskedOnly: an Add past them is taken.
func TestLimitsAreAskedOnly(t *testing.T) {
	l := mustNew(t, 5, 5)
	mustAdd(t, l, 2, limit)
	mustBe(t, l, idle().with(2, limit))
	mustAdd(t, l, 2, limit)
	mustBe(t, l, idle().with(2, 2*limit))
	mustAdd(t, l, 3, 6)
	mustBe(t, l, idle().with(2, 2*limit).with(3, 6))
}

// TestAdd: of each station each amount, twice.
func TestAdd(t *testing.T) {
	for aid := 1; aid <= 16; aid++ {
		for _, air := range amounts() {
			l := mustNew(t, 0, 0)
			for n := range int64(2) {
				mustAdd(t, l, aid, air)
				if air == 0 {
					mustBe(t, l, idle())
				} else {
					mustBe(t, l, idle().with(aid, air*(n+1)))
				}
			}
		}
	}
}

// TestAirOutOfRange: Add and Sub of it, of who has nothing, something, and more than any air.
func TestAirOutOfRange(t *testing.T) {
	l, s := some(t)
	mustAdd(t, l, 7, limit)
	mustAdd(t, l, 7, limit)
	s = s.with(7, 2*limit+1)
	s.may[1], s.may[15], s.may[16] = false, false, false
	mustBe(t, l, s)
	for aid := 1; aid <= 16; aid++ {
		for _, air := range noAmounts() {
			mustRefuse(t, l, aid, air, api.ErrRange, api.ErrRange)
		}
	}
	mustBe(t, l, s)
}

// TestSub: less than there is, just that, and one more.
func TestSub(t *testing.T) {
	for aid := 1; aid <= 16; aid++ {
		for _, air := range amounts() {
			l := mustNew(t, 0, 0)
			mustAdd(t, l, aid%16+1, 7)
			mustAdd(t, l, aid, air)
			base := idle().with(aid%16+1, 7)
			if air < limit {
				mustRefuse(t, l, aid, air+1, nil, api.ErrState)
			}
			mustSub(t, l, aid, 0)
			if air > 1 {
				mustSub(t, l, aid, 1)
				mustBe(t, l, base.with(aid, air-1))
				mustRefuse(t, l, aid, air, nil, api.ErrState)
				mustSub(t, l, aid, air-2)
				mustBe(t, l, base.with(aid, 1))
				mustAdd(t, l, aid, air-1)
			}
			mustSub(t, l, aid, air)
			mustBe(t, l, base)
			mustRefuse(t, l, aid, 1, nil, api.ErrState)
			mustRefuse(t, l, aid, limit, nil, api.ErrState)
			mustSub(t, l, aid, 0)
			mustBe(t, l, base)
		}
	}
}

// TestSubAsksTheStationAlone: what others have does not help.
func TestSubAsksTheStationAlone(t *testing.T) {
	l, s := some(t)
	mustRefuse(t, l, 7, 2, nil, api.ErrState)
	mustRefuse(t, l, 3, 1, nil, api.ErrState)
	mustRefuse(t, l, 1, 20, nil, api.ErrState)
	mustSub(t, l, 2, 20)
	mustBe(t, l, s.yet(2, 0))
	mustSub(t, l, 1, 19)
	mustBe(t, l, s.yet(2, 0).yet(1, 0))
}

// TestSubOfMuch: more than one call may take away is under way.
func TestSubOfMuch(t *testing.T) {
	l := mustNew(t, 9, 9)
	mustAdd(t, l, 4, limit)
	mustAdd(t, l, 4, limit)
	mustRefuse(t, l, 4, limit+1, api.ErrRange, api.ErrRange)
	mustSub(t, l, 4, limit)
	mustBe(t, l, idle().with(4, limit))
	mustSub(t, l, 4, limit)
	mustBe(t, l, idle())
}

// pile adds the greatest air so many times.
func pile(t *testing.T, l *Limit, aid, times int) {
	t.Helper()
	for range times {
		if err := l.Add(aid, limit); err != nil {
			t.Fatal(err)
		}
	}
}

// TestAgainAndAgain: the greatest air, till one word without a sign is full, and back: nothing goes round.
func TestAgainAndAgain(t *testing.T) {
	const word = 1 << 24 // so many times 2^40 is 2^64
	l := mustNew(t, limit, limit)
	mustAdd(t, l, 6, 3)
	for n := range int64(word) {
		if n < word/2 && l.Of(5) != n*limit || n >= word/2 && l.Of(5) != math.MaxInt64 {
			t.Fatal(n, l.Of(5))
		}
		if n > 0 && n%1024 == 0 && (l.May(5) || l.May(6)) {
			t.Fatal(n, l.May(5), l.May(6))
		}
		if err := l.Add(5, limit); err != nil {
			t.Fatal(n, err)
		}
	}
	full := idle().with(6, 3).with(5, 0)
	full.of[5], full.all = math.MaxInt64, math.MaxInt64
	mustBe(t, l, full)
	mustAdd(t, l, 5, 1)
	mustBe(t, l, full)
	mustSub(t, l, 5, 2)
	mustBe(t, l, full)
	mustAdd(t, l, 5, limit)
	mustAdd(t, l, 5, 1)
	for n := int64(word); n >= 0; n-- {
		if err := l.Sub(5, limit); err != nil {
			t.Fatal(n, err)
		}
		if n < word/2 && l.Of(5) != n*limit || n >= word/2 && l.Of(5) != math.MaxInt64 {
			t.Fatal(n, l.Of(5))
		}
	}
	mustBe(t, l, idle().yet(6, 3))
}

// TestAnswersCut: what is under way of one station, about the greatest number that an answer can tell.
func TestAnswersCut(t *testing.T) {
	l := mustNew(t, limit, limit)
	pile(t, l, 16, 1<<23-1)
	mustAdd(t, l, 16, limit-2)
	mustBe(t, l, idle().with(16, math.MaxInt64-1))
	mustAdd(t, l, 16, 1)
	most := idle().with(16, math.MaxInt64)
	mustBe(t, l, most)
	for _, air := range []int64{0, 1, 1, limit, 5} {
		mustAdd(t, l, 16, air)
		mustBe(t, l, most)
	}
	for _, air := range []int64{limit, 5, 1, 1} {
		mustSub(t, l, 16, air)
		mustBe(t, l, most)
	}
	mustSub(t, l, 16, 1)
	mustBe(t, l, idle().with(16, math.MaxInt64-1))
	mustSub(t, l, 16, limit)
	mustBe(t, l, idle().with(16, math.MaxInt64-1-limit))
	mustAdd(t, l, 16, limit)
	mustAdd(t, l, 16, limit)
	mustBe(t, l, most)
	l.Clear(16)
	mustBe(t, l, idle())
}

// TestAllCut: each can be told, but not the whole; it does not go round, nor does what is asked of it.
func TestAllCut(t *testing.T) {
	l := mustNew(t, limit, limit)
	want := idle()
	for aid := 2; aid <= 5; aid++ {
		pile(t, l, aid, 1<<22)
		want = want.with(aid, 1<<62)
		if aid > 2 {
			want.all = math.MaxInt64
		}
		mustBe(t, l, want)
	}
	// The whole is 2^64 by now, and 1 more with this one, that is below its own limit.
	mustAdd(t, l, 9, 1)
	want = want.with(9, 1)
	want.all = math.MaxInt64
	mustBe(t, l, want)
	for aid := 2; aid <= 4; aid++ {
		l.Clear(aid)
		want = want.yet(aid, 0)
		want.all = math.MaxInt64
		if aid == 4 {
			want.all = 1<<62 + 1
		}
		mustBe(t, l, want)
	}
	l.Clear(5)
	mustBe(t, l, idle().yet(9, 1))
}

// TestSum: amounts of two words, held against numbers without bounds.
func TestSum(t *testing.T) {
	words := []uint64{0, 1, 2, limit - 1, limit, limit + 1, 1<<63 - 2, 1<<63 - 1, 1 << 63, 1<<63 + 1, math.MaxUint64 - 1, math.MaxUint64}
	large := func(s sum) *big.Int {
		n := new(big.Int).Lsh(new(big.Int).SetUint64(s.high), 64)
		return n.Add(n, new(big.Int).SetUint64(s.low))
	}
	for _, low := range words {
		for _, high := range []uint64{0, 1, 2, 1 << 40} {
			a := sum{high, low}
			told := large(a)
			if told.Cmp(big.NewInt(math.MaxInt64)) > 0 {
				told = big.NewInt(math.MaxInt64)
			}
			if a.number() != told.Int64() {
				t.Error(a, a.number())
			}
			for _, other := range words {
				for _, high := range []uint64{0, 1, 3} {
					b := sum{high, other}
					c := a.plus(b)
					if large(c).Cmp(new(big.Int).Add(large(a), large(b))) != 0 || c.minus(b) != a || c.minus(a) != b {
						t.Error(a, b, c)
					}
				}
			}
		}
	}
}

// TestClear: of one that has something, of one that has nothing; the others' stays.
func TestClear(t *testing.T) {
	for aid := 1; aid <= 16; aid++ {
		l, s := some(t)
		l.Clear(aid)
		mustBe(t, l, s.yet(aid, 0))
		l.Clear(aid)
		mustBe(t, l, s.yet(aid, 0))
		mustRefuse(t, l, aid, 1, nil, api.ErrState)
		mustAdd(t, l, aid, 0)
		mustBe(t, l, s.yet(aid, 0))
		mustAdd(t, l, aid, 21)
		// Of all 60 or more is under way: who has something waits.
		want := s.with(aid, 21)
		for n := 1; n <= 16; n++ {
			want.may[n] = want.of[n] == 0
		}
		mustBe(t, l, want)
	}
}

// TestClearLetsOthersIn: what it leaves of all is what the others are asked by.
func TestClearLetsOthersIn(t *testing.T) {
	l, _ := some(t)
	mustAdd(t, l, 7, 1)
	full := idle().with(1, 19).with(2, 20).with(7, 2).with(15, 7).with(16, 12)
	mustBe(t, l, full)
	for _, aid := range noAids() {
		l.Clear(aid)
	}
	l.Clear(3)
	mustBe(t, l, full)
	l.Clear(2)
	mustBe(t, l, idle().yet(1, 19).yet(7, 2).yet(15, 7).yet(16, 12))
}

// TestAskingChangesNothing: May, Of, All and Clone do not.
func TestAskingChangesNothing(t *testing.T) {
	l, s := some(t)
	for range 3 {
		mustBe(t, l, s)
		l.Clone()
	}
}

// TestClone: a copy is as the one it was made of, and each goes its own way.
func TestClone(t *testing.T) {
	l, was := some(t)
	c := l.Clone()
	mustBe(t, c, was)
	// The one goes on: the copy stays.
	mustAdd(t, l, 1, 1)
	now := idle().with(1, 20).with(2, 20).with(7, 1).with(15, 7).with(16, 12)
	mustBe(t, l, now)
	mustBe(t, c, was)
	// The copy goes on: the one stays, and a copy of the copy does.
	d := c.Clone()
	mustSub(t, c, 2, 1)
	c.Clear(16)
	after := idle().yet(1, 19).yet(2, 19).yet(7, 1).yet(15, 7)
	mustBe(t, c, after)
	mustBe(t, l, now)
	mustBe(t, d, was)
	l.Clear(1)
	mustAdd(t, d, 16, 8)
	mustBe(t, l, idle().with(2, 20).yet(7, 1).yet(15, 7).yet(16, 12))
	mustBe(t, c, after)
	mustBe(t, d, idle().with(1, 19).with(2, 20).with(7, 1).with(15, 7).with(16, 20))
	// The limits are its own one's, too.
	e := mustNew(t, 3, 5).Clone()
	mustAdd(t, e, 1, 2)
	mustBe(t, e, idle().yet(1, 2))
	mustAdd(t, e, 2, 3)
	mustBe(t, e, idle().with(1, 2).with(2, 3))
}

// TestCloneOfMuch: a copy has what no answer can tell, too.
func TestCloneOfMuch(t *testing.T) {
	l := mustNew(t, limit, limit)
	l.under[3] = sum{1, 5}
	c := l.Clone()
	l.Clear(3)
	mustSub(t, c, 3, 6)
	if c.under[3] != (sum{0, math.MaxUint64}) || c.Of(3) != math.MaxInt64 || c.All() != math.MaxInt64 {
		t.Fatal(c.under[3], c.Of(3), c.All())
	}
	mustBe(t, l, idle())
}

// TestTwoOfThem: what one does is nothing to another one.
func TestTwoOfThem(t *testing.T) {
	a, b := mustNew(t, 20, 60), mustNew(t, 20, 60)
	mustAdd(t, a, 1, 20)
	mustBe(t, b, idle())
	mustAdd(t, b, 2, 5)
	a.Clear(2)
	mustBe(t, a, idle().with(1, 20))
	mustBe(t, b, idle().yet(2, 5))
}

// TestKeepsNothingOfWhatEnded: behind what left nothing under way it is as a new one in all that it keeps.
func TestKeepsNothingOfWhatEnded(t *testing.T) {
	l, _ := some(t)
	for aid := 1; aid <= 16; aid++ {
		if aid%2 == 0 {
			l.Clear(aid)
		} else {
			mustSub(t, l, aid, l.Of(aid))
		}
	}
	if *l != *mustNew(t, 20, 60) {
		t.Fatal(l)
	}
}

// What a step of a course may be.
const (
	add = iota
	sub
	wipe
)

// What it answers.
const (
	ok = iota
	ofRange
	ofState
)

func do(l *Limit, step, aid int, air int64) error {
	switch step {
	case add:
		return l.Add(aid, air)
	case sub:
		return l.Sub(aid, air)
	}
	l.Clear(aid)
	return nil
}

// TestCourse: three hundred steps in a row, with limits of 20 and 60. Behind each: its error, what of its station is under
// way, what of all, and of which stations more may come (bit 1 for aid 1). The numbers were worked out apart from the
// program, by the chapter's words.
func TestCourse(t *testing.T) {
	l := mustNew(t, 20, 60)
	for i, x := range []struct {
		step, aid int
		air       int64
		answer    int
		of, all   int64
		may       int
	}{
		{add, 4, 25, ok, 25, 25, 0x1ffee},
		{add, 5, 25, ok, 25, 50, 0x1ffce},
		{sub, -1, 1, ofRange, 0, 50, 0x1ffce},
		{add, 4, 10, ok, 35, 60, 0x1ffce},
		{sub, 5, 18, ok, 7, 42, 0x1ffee},
		{sub, 5, 1, ok, 6, 41, 0x1ffee},
		{sub, 4, 35, ok, 0, 6, 0x1fffe},
		{add, 1, 9, ok, 9, 15, 0x1fffe},
		{add, 1, 11, ok, 20, 26, 0x1fffc},
		{add, 5, 25, ok, 31, 51, 0x1ffdc},
		{add, 6, 1, ok, 1, 52, 0x1ffdc},
		{add, 10, 0, ok, 0, 52, 0x1ffdc},
		{add, 18, 2, ofRange, 0, 52, 0x1ffdc},
		{add, 6, 4, ok, 5, 56, 0x1ffdc},
		{sub, 6, 4, ok, 1, 52, 0x1ffdc},
		{sub, 6, 1, ok, 0, 51, 0x1ffdc},
		{add, 5, 9, ok, 40, 60, 0x1ffdc},
		{add, 15, 9, ok, 9, 69, 0x17fdc},
		{sub, 15, 9, ok, 0, 60, 0x1ffdc},
		{add, 16, 20, ok, 20, 80, 0xffdc},
		{sub, 1, 12, ok, 8, 68, 0xffdc},
		{sub, 5, 41, ofState, 40, 68, 0xffdc},
		{sub, 1, 0, ok, 8, 68, 0xffdc},
		{sub, 5, 40, ok, 0, 28, 0xfffe},
		{add, 1, 9, ok, 17, 37, 0xfffe},
		{add, 3, -1, ofRange, 0, 37, 0xfffe},
		{add, 8, -1, ofRange, 0, 37, 0xfffe},
		{add, 16, 5, ok, 25, 42, 0xfffe},
		{add, 1, 3, ok, 20, 45, 0xfffc},
		{add, 8, limit + 1, ofRange, 0, 45, 0xfffc},
		{add, 7, 15, ok, 15, 60, 0xff7c},
		{add, -1, 9, ofRange, 0, 60, 0xff7c},
		{add, 13, 3, ok, 3, 63, 0xdf7c},
		{add, 16, 0, ok, 25, 63, 0xdf7c},
		{sub, 1, 16, ok, 4, 47, 0xfffe},
		{add, 0, 13, ofRange, 0, 47, 0xfffe},
		{add, 16, 13, ok, 38, 60, 0xdf7c},
		{sub, 1, 0, ok, 4, 60, 0xdf7c},
		{add, 3, 8, ok, 8, 68, 0xdf74},
		{sub, 3, 0, ok, 8, 68, 0xdf74},
		{sub, 7, 15, ok, 0, 53, 0xfffe},
		{sub, 3, 8, ok, 0, 45, 0xfffe},
		{sub, 1, 0, ok, 4, 45, 0xfffe},
		{wipe, 16, 0, ok, 0, 7, 0x1fffe},
		{add, 1, 16, ok, 20, 23, 0x1fffc},
		{add, 16, 20, ok, 20, 43, 0xfffc},
		{wipe, 1, 0, ok, 0, 23, 0xfffe},
		{add, 7, limit + 1, ofRange, 0, 23, 0xfffe},
		{sub, 13, 4, ofState, 3, 23, 0xfffe},
		{sub, 16, 12, ok, 8, 11, 0x1fffe},
		{sub, 13, 3, ok, 0, 8, 0x1fffe},
		{add, 13, 12, ok, 12, 20, 0x1fffe},
		{add, 12, 25, ok, 25, 45, 0x1effe},
		{add, 16, 8, ok, 16, 53, 0x1effe},
		{add, 16, 4, ok, 20, 57, 0xeffe},
		{sub, 13, 6, ok, 6, 51, 0xeffe},
		{sub, 16, 21, ofState, 20, 51, 0xeffe},
		{wipe, 16, 0, ok, 0, 31, 0x1effe},
		{sub, 13, 4, ok, 2, 27, 0x1effe},
		{add, 15, 0, ok, 0, 27, 0x1effe},
		{wipe, 12, 0, ok, 0, 2, 0x1fffe},
		{add, 12, 25, ok, 25, 27, 0x1effe},
		{add, 12, 25, ok, 50, 52, 0x1effe},
		{sub, 12, -1, ofRange, 50, 52, 0x1effe},
		{sub, 13, 1, ok, 1, 51, 0x1effe},
		{sub, 12, 1, ok, 49, 50, 0x1effe},
		{add, 15, 10, ok, 10, 60, 0x14ffe},
		{sub, 13, 0, ok, 1, 60, 0x14ffe},
		{sub, 6, 1, ofState, 0, 60, 0x14ffe},
		{add, 13, 18, ok, 19, 78, 0x14ffe},
		{add, 15, limit + 1, ofRange, 10, 78, 0x14ffe},
		{sub, 13, 20, ofState, 19, 78, 0x14ffe},
		{sub, 13, 0, ok, 19, 78, 0x14ffe},
		{sub, 15, 4, ok, 6, 74, 0x14ffe},
		{sub, 15, 6, ok, 0, 68, 0x1cffe},
		{add, 13, 0, ok, 19, 68, 0x1cffe},
		{add, 13, 1, ok, 20, 69, 0x1cffe},
		{sub, 13, 0, ok, 20, 69, 0x1cffe},
		{sub, 12, 49, ok, 0, 20, 0x1dffe},
		{sub, 13, 16, ok, 4, 4, 0x1fffe},
		{add, 7, 25, ok, 25, 29, 0x1ff7e},
		{sub, 6, 0, ok, 0, 29, 0x1ff7e},
		{add, 13, 8, ok, 12, 37, 0x1ff7e},
		{add, 15, 4, ok, 4, 41, 0x1ff7e},
		{sub, 7, 23, ok, 2, 18, 0x1fffe},
		{add, 7, 17, ok, 19, 35, 0x1fffe},
		{sub, 7, 19, ok, 0, 16, 0x1fffe},
		{sub, 15, 5, ofState, 4, 16, 0x1fffe},
		{add, 4, 25, ok, 25, 41, 0x1ffee},
		{add, 7, 19, ok, 19, 60, 0x15f6e},
		{add, 3, 4, ok, 4, 64, 0x15f66},
		{sub, 3, 5, ofState, 4, 64, 0x15f66},
		{sub, 1, 1, ofState, 0, 64, 0x15f66},
		{add, 11, 19, ok, 19, 83, 0x15766},
		{add, 4, 9, ok, 34, 92, 0x15766},
		{sub, 3, limit + 1, ofRange, 4, 92, 0x15766},
		{add, 10, 12, ok, 12, 104, 0x15366},
		{add, -1, 5, ofRange, 0, 104, 0x15366},
		{sub, 7, 19, ok, 0, 85, 0x153e6},
		{wipe, 11, 0, ok, 0, 66, 0x15be6},
		{add, 14, 10, ok, 10, 76, 0x11be6},
		{sub, 15, 5, ofState, 4, 76, 0x11be6},
		{add, 10, 8, ok, 20, 84, 0x11be6},
		{sub, 13, 4, ok, 8, 80, 0x11be6},
		{sub, 12, 1, ofState, 0, 80, 0x11be6},
		{sub, 10, 21, ofState, 20, 80, 0x11be6},
		{sub, 14, 10, ok, 0, 70, 0x15be6},
		{sub, 10, 20, ok, 0, 50, 0x1ffee},
		{add, 15, 10, ok, 14, 60, 0x15fe6},
		{sub, 3, 5, ofState, 4, 60, 0x15fe6},
		{sub, 4, 8, ok, 26, 52, 0x1ffee},
		{add, 13, 11, ok, 19, 63, 0x15fe6},
		{add, 13, 7, ok, 26, 70, 0x15fe6},
		{sub, 13, 26, ok, 0, 44, 0x1ffee},
		{sub, 15, 15, ofState, 14, 44, 0x1ffee},
		{add, 3, 15, ok, 19, 59, 0x1ffee},
		{sub, 11, 0, ok, 0, 59, 0x1ffee},
		{add, 16, 3, ok, 3, 62, 0x7fe6},
		{add, 15, 9, ok, 23, 71, 0x7fe6},
		{sub, 16, 1, ok, 2, 70, 0x7fe6},
		{add, 4, 11, ok, 37, 81, 0x7fe6},
		{add, 14, 4, ok, 4, 85, 0x3fe6},
		{sub, 7, 1, ofState, 0, 85, 0x3fe6},
		{add, 14, 5, ok, 9, 90, 0x3fe6},
		{add, 14, 10, ok, 19, 100, 0x3fe6},
		{sub, 3, 6, ok, 13, 94, 0x3fe6},
		{sub, 8, 1, ofState, 0, 94, 0x3fe6},
		{sub, 4, 38, ofState, 37, 94, 0x3fe6},
		{add, 9, 20, ok, 20, 114, 0x3de6},
		{wipe, 15, 0, ok, 0, 91, 0xbde6},
		{add, 4, 8, ok, 45, 99, 0xbde6},
		{sub, 4, 34, ok, 11, 65, 0xbde6},
		{sub, 14, 14, ok, 5, 51, 0x1fdfe},
		{add, 16, 9, ok, 11, 60, 0xbde6},
		{sub, 14, 2, ok, 3, 58, 0x1fdfe},
		{add, 4, 12, ok, 23, 70, 0xbde6},
		{sub, 4, 14, ok, 9, 56, 0x1fdfe},
		{sub, 10, 0, ok, 0, 56, 0x1fdfe},
		{add, 13, 9, ok, 9, 65, 0x9de6},
		{sub, 14, 4, ofState, 3, 65, 0x9de6},
		{sub, 14, 0, ok, 3, 65, 0x9de6},
		{sub, 14, 3, ok, 0, 62, 0xdde6},
		{add, 11, 20, ok, 20, 82, 0xd5e6},
		{sub, 4, 7, ok, 2, 75, 0xd5e6},
		{add, 10, 12, ok, 12, 87, 0xd1e6},
		{add, 18, 3, ofRange, 0, 87, 0xd1e6},
		{add, 16, 8, ok, 19, 95, 0xd1e6},
		{sub, 3, 12, ok, 1, 83, 0xd1e6},
		{add, 2, 11, ok, 11, 94, 0xd1e2},
		{sub, 9, 5, ok, 15, 89, 0xd1e2},
		{sub, 9, 16, ofState, 15, 89, 0xd1e2},
		{sub, 9, 15, ok, 0, 74, 0xd3e2},
		{sub, 3, 1, ok, 0, 73, 0xd3ea},
		{sub, 11, 10, ok, 10, 63, 0xd3ea},
		{sub, 11, 8, ok, 2, 55, 0x1fffe},
		{add, 13, 4, ok, 13, 59, 0x1fffe},
		{add, 12, 0, ok, 0, 59, 0x1fffe},
		{add, 4, 3, ok, 5, 62, 0xd3ea},
		{sub, 16, 16, ok, 3, 46, 0x1fffe},
		{add, 6, 14, ok, 14, 60, 0xd3aa},
		{wipe, 13, 0, ok, 0, 47, 0x1fffe},
		{add, 10, 5, ok, 17, 52, 0x1fffe},
		{sub, 2, 7, ok, 4, 45, 0x1fffe},
		{add, 10, 12, ok, 29, 57, 0x1fbfe},
		{sub, 2, 4, ok, 0, 53, 0x1fbfe},
		{add, 5, 0, ok, 0, 53, 0x1fbfe},
		{add, 5, 12, ok, 12, 65, 0xf38e},
		{add, 12, 0, ok, 0, 65, 0xf38e},
		{sub, 5, 12, ok, 0, 53, 0x1fbfe},
		{add, 16, 7, ok, 10, 60, 0xf3ae},
		{add, 4, 7, ok, 12, 67, 0xf3ae},
		{sub, 11, 2, ok, 0, 65, 0xfbae},
		{sub, 16, 10, ok, 0, 55, 0x1fbfe},
		{add, 4, 1, ok, 13, 56, 0x1fbfe},
		{sub, 10, 9, ok, 20, 47, 0x1fbfe},
		{sub, 10, 20, ok, 0, 27, 0x1fffe},
		{add, 6, 11, ok, 25, 38, 0x1ffbe},
		{add, 14, 1, ok, 1, 39, 0x1ffbe},
		{sub, 9, 0, ok, 0, 39, 0x1ffbe},
		{add, 6, 21, ok, 46, 60, 0x1bfae},
		{add, 14, 10, ok, 11, 70, 0x1bfae},
		{sub, 4, 12, ok, 1, 58, 0x1ffbe},
		{sub, 6, limit + 1, ofRange, 46, 58, 0x1ffbe},
		{sub, 14, 2, ok, 9, 56, 0x1ffbe},
		{wipe, 10, 0, ok, 0, 56, 0x1ffbe},
		{add, 6, 2, ok, 48, 58, 0x1ffbe},
		{add, 14, 6, ok, 15, 64, 0x1bfae},
		{sub, 4, 1, ok, 0, 63, 0x1bfbe},
		{add, 6, 11, ok, 59, 74, 0x1bfbe},
		{sub, 4, 0, ok, 0, 74, 0x1bfbe},
		{add, 10, 4, ok, 4, 78, 0x1bbbe},
		{sub, 9, 1, ofState, 0, 78, 0x1bbbe},
		{add, 6, 10, ok, 69, 88, 0x1bbbe},
		{add, 1, 11, ok, 11, 99, 0x1bbbc},
		{sub, 6, 35, ok, 34, 64, 0x1bbbc},
		{sub, 6, 28, ok, 6, 36, 0x1fffe},
		{add, 11, 10, ok, 10, 46, 0x1fffe},
		{wipe, 1, 0, ok, 0, 35, 0x1fffe},
		{add, 5, 7, ok, 7, 42, 0x1fffe},
		{sub, 10, 3, ok, 1, 39, 0x1fffe},
		{add, 16, 11, ok, 11, 50, 0x1fffe},
		{sub, 16, 0, ok, 11, 50, 0x1fffe},
		{add, 2, 1, ok, 1, 51, 0x1fffe},
		{add, 9, limit + 1, ofRange, 0, 51, 0x1fffe},
		{sub, 10, -1, ofRange, 1, 51, 0x1fffe},
		{add, 11, 8, ok, 18, 59, 0x1fffe},
		{sub, 14, 14, ok, 1, 45, 0x1fffe},
		{sub, 10, 0, ok, 1, 45, 0x1fffe},
		{add, 2, 15, ok, 16, 60, 0xb39a},
		{add, 3, 19, ok, 19, 79, 0xb392},
		{sub, 16, 7, ok, 4, 72, 0xb392},
		{sub, 3, 18, ok, 1, 54, 0x1fffe},
		{add, 5, 4, ok, 11, 58, 0x1fffe},
		{add, 16, 5, ok, 9, 63, 0xb392},
		{add, 2, 0, ok, 16, 63, 0xb392},
		{wipe, 3, 0, ok, 0, 62, 0xb39a},
		{add, 5, 7, ok, 18, 69, 0xb39a},
		{add, 4, 8, ok, 8, 77, 0xb38a},
		{sub, 10, 1, ok, 0, 76, 0xb78a},
		{add, 13, 4, ok, 4, 80, 0x978a},
		{sub, 4, -1, ofRange, 8, 80, 0x978a},
		{sub, 16, 8, ok, 1, 72, 0x978a},
		{add, 4, 12, ok, 20, 84, 0x978a},
		{add, 3, 3, ok, 3, 87, 0x9782},
		{sub, 5, 18, ok, 0, 69, 0x97a2},
		{sub, 14, 0, ok, 1, 69, 0x97a2},
		{add, 4, 2, ok, 22, 71, 0x97a2},
		{wipe, 6, 0, ok, 0, 65, 0x97e2},
		{sub, 11, 4, ok, 14, 61, 0x97e2},
		{sub, 4, 1, ok, 21, 60, 0x97e2},
		{sub, 13, 4, ok, 0, 56, 0x1ffee},
		{add, 2, 11, ok, 27, 67, 0xb7e2},
		{add, 6, 2, ok, 2, 69, 0xb7a2},
		{sub, 16, 1, ok, 0, 68, 0x1b7a2},
		{add, 1, 20, ok, 20, 88, 0x1b7a0},
		{sub, 6, 1, ok, 1, 87, 0x1b7a0},
		{sub, 3, 2, ok, 1, 85, 0x1b7a0},
		{add, 6, 19, ok, 20, 104, 0x1b7a0},
		{add, 2, 1, ok, 28, 105, 0x1b7a0},
		{add, 1, 7, ok, 27, 112, 0x1b7a0},
		{sub, 4, 19, ok, 2, 93, 0x1b7a0},
		{wipe, 2, 0, ok, 0, 65, 0x1b7a4},
		{sub, 1, 17, ok, 10, 48, 0x1ffbe},
		{sub, 11, limit + 1, ofRange, 14, 48, 0x1ffbe},
		{add, 8, 3, ok, 3, 51, 0x1ffbe},
		{sub, 8, 4, ofState, 3, 51, 0x1ffbe},
		{add, 14, 18, ok, 19, 69, 0x1b6a4},
		{add, 14, 6, ok, 25, 75, 0x1b6a4},
		{add, 3, 19, ok, 20, 94, 0x1b6a4},
		{sub, 6, 7, ok, 13, 87, 0x1b6a4},
		{sub, 3, 9, ok, 11, 78, 0x1b6a4},
		{add, 9, 2, ok, 2, 80, 0x1b4a4},
		{sub, 14, 26, ofState, 25, 80, 0x1b4a4},
		{sub, 1, 10, ok, 0, 70, 0x1b4a6},
		{sub, 14, 25, ok, 0, 45, 0x1fffe},
		{add, 5, 7, ok, 7, 52, 0x1fffe},
		{add, 9, 9, ok, 11, 61, 0x1f486},
		{add, 11, 6, ok, 20, 67, 0x1f486},
		{sub, 3, 10, ok, 1, 57, 0x1f7fe},
		{sub, 9, 5, ok, 6, 52, 0x1f7fe},
		{add, 16, 5, ok, 5, 57, 0x1f7fe},
		{sub, 6, 13, ok, 0, 44, 0x1f7fe},
		{wipe, 8, 0, ok, 0, 41, 0x1f7fe},
		{add, 5, 13, ok, 20, 54, 0x1f7de},
		{add, 4, 17, ok, 19, 71, 0xf5c6},
		{sub, 15, 1, ofState, 0, 71, 0xf5c6},
		{sub, 11, 20, ok, 0, 51, 0x1ffde},
		{add, 4, 0, ok, 19, 51, 0x1ffde},
		{add, 16, 8, ok, 13, 59, 0x1ffde},
		{add, 9, 1, ok, 7, 60, 0xfdc6},
		{sub, 9, 2, ok, 5, 58, 0x1ffde},
		{add, 4, 6, ok, 25, 64, 0xfdc6},
		{sub, 3, 1, ok, 0, 63, 0xfdce},
		{sub, 4, 18, ok, 7, 45, 0x1ffde},
		{sub, 14, 1, ofState, 0, 45, 0x1ffde},
		{add, 13, 1, ok, 1, 46, 0x1ffde},
		{add, 5, 6, ok, 26, 52, 0x1ffde},
		{add, 9, 5, ok, 10, 57, 0x1ffde},
		{add, 16, 2, ok, 15, 59, 0x1ffde},
		{add, 4, 1, ok, 8, 60, 0xddce},
		{add, 4, 12, ok, 20, 72, 0xddce},
		{add, 7, 11, ok, 11, 83, 0xdd4e},
		{sub, 13, 1, ok, 0, 82, 0xfd4e},
		{sub, 16, 1, ok, 14, 81, 0xfd4e},
		{sub, 9, 6, ok, 4, 75, 0xfd4e},
		{sub, 5, 19, ok, 7, 56, 0x1ffee},
		{add, 16, 6, ok, 20, 62, 0xfd4e},
		{add, 2, 1, ok, 1, 63, 0xfd4a},
		{add, 5, 12, ok, 19, 75, 0xfd4a},
		{sub, 2, 2, ofState, 1, 75, 0xfd4a},
		{sub, 4, 0, ok, 20, 75, 0xfd4a},
		{sub, 7, 2, ok, 9, 73, 0xfd4a},
		{add, 9, 8, ok, 12, 81, 0xfd4a},
		{sub, 2, 1, ok, 0, 80, 0xfd4e},
		{sub, 11, 0, ok, 0, 80, 0xfd4e},
		{wipe, 5, 0, ok, 0, 61, 0xfd6e},
		{sub, 3, 1, ofState, 0, 61, 0xfd6e},
		{add, 10, 20, ok, 20, 81, 0xf96e},
		{sub, 9, 12, ok, 0, 69, 0xfb6e},
		{sub, 7, 10, ofState, 9, 69, 0xfb6e},
	} {
		if err := do(l, x.step, x.aid, x.air); err != []error{nil, api.ErrRange, api.ErrState}[x.answer] {
			t.Fatalf("step %d: %v", i, err)
		}
		if l.Of(x.aid) != x.of || l.All() != x.all {
			t.Fatalf("step %d: %d of %d", i, l.Of(x.aid), l.All())
		}
		for aid := -1; aid <= 18; aid++ {
			if may := aid >= 1 && x.may>>aid&1 == 1; l.May(aid) != may {
				t.Fatalf("step %d: May(%d) is not %v", i, aid, may)
			}
		}
	}
}

// TestGrowing: a thousand steps whose numbers a short rule tells: the n-th adds n, in turn to four stations.
func TestGrowing(t *testing.T) {
	l := mustNew(t, 1000, 3000)
	var of [4]int64
	for n := int64(1); n <= 1000; n++ {
		k := n % 4
		mustAdd(t, l, int(k)*5+1, n)
		of[k] += n
		want := state{all: n * (n + 1) / 2}
		for aid := 1; aid <= 16; aid++ {
			if aid%5 == 1 {
				want.of[aid] = of[aid/5]
			}
			want.may[aid] = want.of[aid] == 0 || want.of[aid] < 1000 && want.all < 3000
		}
		mustBe(t, l, want)
	}
}

// rival keeps numbers without bounds, and that of all beside those of each.
type rival struct {
	station, all *big.Int
	of           [17]*big.Int
	sum          *big.Int
}

func newRival(station, all int64) *rival {
	r := &rival{station: big.NewInt(station), all: big.NewInt(all), sum: new(big.Int)}
	for aid := range r.of {
		r.of[aid] = new(big.Int)
	}
	return r
}

func (r *rival) change(aid int, by *big.Int) {
	r.of[aid] = new(big.Int).Add(r.of[aid], by)
	r.sum = new(big.Int).Add(r.sum, by)
}

func (r *rival) do(step, aid int, air int64) error {
	station := aid > 0 && aid < 17
	n := big.NewInt(air)
	switch {
	case step == wipe && !station:
	case step == wipe:
		r.change(aid, new(big.Int).Neg(r.of[aid]))
	case !station || air < 0 || air > limit:
		return api.ErrRange
	case step == add:
		r.change(aid, n)
	case r.of[aid].Cmp(n) < 0:
		return api.ErrState
	default:
		r.change(aid, n.Neg(n))
	}
	return nil
}

func told(n *big.Int) int64 {
	if !n.IsInt64() {
		return math.MaxInt64
	}
	return n.Int64()
}

func (r *rival) state() state {
	s := state{all: told(r.sum)}
	for aid := 1; aid <= 16; aid++ {
		s.of[aid] = told(r.of[aid])
		s.may[aid] = r.of[aid].Sign() == 0 || r.of[aid].Cmp(r.station) < 0 && r.sum.Cmp(r.all) < 0
	}
	return s
}

func (r *rival) clone() *rival {
	c := *r
	return &c
}

func mustDoAsRival(t *testing.T, l *Limit, r *rival, step, aid int, air int64) {
	t.Helper()
	if err, err2 := do(l, step, aid, air), r.do(step, aid, air); err != err2 {
		t.Fatalf("step %d of %d, %d: %v, not %v", step, aid, air, err, err2)
	}
	mustBe(t, l, r.state())
}

// dice is numbers that look like thrown ones, the same each time.
type dice uint64

func (d *dice) throw() uint64 {
	*d += 0x9e3779b97f4a7c15
	x := uint64(*d)
	x = (x ^ x>>30) * 0xbf58476d1ce4e5b9
	x = (x ^ x>>27) * 0x94d049bb133111eb
	return x ^ x>>31
}

func (d *dice) below(n int64) int64 { return int64(d.throw() % uint64(n)) }

// limits is small ones mostly, or any.
func (d *dice) limits() (int64, int64) {
	switch d.below(4) {
	case 0:
		return amounts()[d.below(int64(len(amounts())))], amounts()[d.below(int64(len(amounts())))]
	case 1:
		return d.below(limit + 1), d.below(limit + 1)
	}
	return d.below(40), d.below(160)
}

// aid is one of a few mostly, any of them, or none.
func (d *dice) aid() int {
	switch d.below(12) {
	case 0:
		return noAids()[d.below(int64(len(noAids())))]
	case 1, 2, 3:
		return int(1 + d.below(16))
	}
	return []int{1, 2, 9, 16}[d.below(4)]
}

// air is about what brings the station or all to a limit, about what there is of it, or any.
func (d *dice) air(r *rival, aid int) int64 {
	s := r.state()
	near := d.below(3) - 1
	if aid < 1 || aid > 16 {
		aid = 1
	}
	switch d.below(8) {
	case 0:
		return noAmounts()[d.below(int64(len(noAmounts())))]
	case 1:
		return amounts()[d.below(int64(len(amounts())))]
	case 2:
		return told(r.station) - s.of[aid] + near
	case 3:
		return told(r.all) - s.all + near
	case 4, 5:
		return s.of[aid] + near
	}
	return d.below(12)
}

// TestModel: long courses, of one and of copies of it, each step held against the rival.
func TestModel(t *testing.T) {
	var errs [3]int
	full, alone := 0, 0
	for seed := range 400 {
		d := dice(seed)
		station, all := d.limits()
		l, r := mustNew(t, station, all), newRival(station, all)
		l2, r2 := l.Clone(), r.clone()
		for range 300 {
			switch step := d.below(16); step {
			case 0:
				l2, r2 = l.Clone(), r.clone()
			case 1:
				l, r, l2, r2 = l2, r2, l, r
			default:
				aid := d.aid()
				air := d.air(r, aid)
				step = []int64{add, add, add, add, add, add, add, sub, sub, sub, sub, sub, sub, wipe}[step-2]
				if step == sub && (aid < 1 || aid > 16 || air < 0 || air > limit) {
					errs[ofRange]++
				} else if step == sub && r.of[aid].Cmp(big.NewInt(air)) < 0 {
					errs[ofState]++
				}
				mustDoAsRival(t, l, r, int(step), aid, air)
			}
			mustBe(t, l, r.state())
			mustBe(t, l2, r2.state())
			s := r.state()
			if s.all >= all && s.of[1] < station && s.of[1] > 0 {
				full++
			}
			if s.all < all && s.of[1] >= station && s.of[1] > 0 {
				alone++
			}
		}
	}
	// The courses have to have come to what they are for.
	if errs[ofRange] < 1000 || errs[ofState] < 1000 || full < 1000 || alone < 1000 {
		t.Error(errs, full, alone)
	}
}

// TestModelOfMuch: courses about what an answer, and what one word, can hold.
func TestModelOfMuch(t *testing.T) {
	cut := 0
	for seed := range 100 {
		d := dice(seed)
		l, r := mustNew(t, limit, limit), newRival(limit, limit)
		for aid := 1; aid <= 16; aid++ {
			// As if it had been added call by call.
			start := []sum{{}, {0, 5}, {0, 1<<63 - 1<<30}, {0, 1<<63 + 7}, {1, 1 << 39}, {0, math.MaxUint64 - 99}}[d.below(6)]
			l.under[aid] = start
			n := new(big.Int).Lsh(new(big.Int).SetUint64(start.high), 64)
			r.change(aid, n.Add(n, new(big.Int).SetUint64(start.low)))
		}
		mustBe(t, l, r.state())
		for range 200 {
			mustDoAsRival(t, l, r, []int{add, sub, add, sub, add, sub, add, sub, wipe}[d.below(9)], d.aid(), amounts()[d.below(int64(len(amounts())))])
			if !r.of[1].IsInt64() {
				cut++
			}
		}
	}
	if cut < 100 {
		t.Error(cut)
	}
}

// FuzzLimit: a course of any bytes, held against the rival.
func FuzzLimit(f *testing.F) {
	f.Add(int64(20), int64(60), []byte{})
	f.Add(int64(20), int64(60), []byte{0x01, 19, 0x02, 20, 0x41, 1, 0x03, 40, 0x43, 60})
	f.Add(int64(0), int64(limit), []byte{0x01, 1, 0x80, 0x02, 255, 0xc1, 0x42, 254, 0x81})
	f.Fuzz(func(t *testing.T, station, all int64, b []byte) {
		l, err := New(station, all)
		if station < 0 || station > limit || all < 0 || all > limit {
			if l != nil || err != api.ErrRange {
				t.Fatal(l, err)
			}
			return
		}
		if err != nil {
			t.Fatal(err)
		}
		r := newRival(station, all)
		l2, r2 := l.Clone(), r.clone()
		next := func() (n byte) {
			if len(b) > 0 {
				n, b = b[0], b[1:]
			}
			return n
		}
		for len(b) > 0 {
			op := next()
			aid := int(op&31) - 6
			switch op >> 5 {
			case 0, 1, 2:
				mustDoAsRival(t, l, r, add, aid, airOf(next()))
			case 3, 4:
				mustDoAsRival(t, l, r, sub, aid, airOf(next()))
			case 5:
				mustDoAsRival(t, l, r, wipe, aid, 0)
			case 6:
				l2, r2 = l.Clone(), r.clone()
			case 7:
				l, r, l2, r2 = l2, r2, l, r
			}
			mustBe(t, l, r.state())
			mustBe(t, l2, r2.state())
		}
	})
}

// airOf is small ones, and about the greatest one, and none that may be.
func airOf(n byte) int64 {
	switch {
	case n < 200:
		return int64(n)
	case n < 230:
		return limit - 220 + int64(n)
	}
	return 1<<(n-200) - 1
}
