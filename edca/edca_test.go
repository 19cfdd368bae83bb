package edca

import (
	"math"
	"testing"

	"muezzin/api"
)

// none stands, in what a test tells of counters, where there is none.
const none = -1

// The chapter's numbers, apart from the program's: what each category waits, and its windows from the first to the most.
func wait(ac int) int { return [4]int{7, 3, 2, 2}[ac] }
func windows(ac int) []int {
	return [4][]int{{15, 31, 63, 127, 255, 511, 1023}, {15, 31, 63}, {7, 15}, {3, 7}}[ac]
}

// state is what Window and Left tell of BK, BE, VI, VO.
type state struct{ window, left [4]int }

// fresh is the state of one that is new.
func fresh() state { return state{[4]int{15, 15, 7, 3}, [4]int{none, none, none, none}} }

// but is the state with another window of one category.
func (s state) but(ac, window int) state {
	s.window[ac] = window
	return s
}

func tell(t *testing.T, e *Edca) state {
	t.Helper()
	var s state
	for ac := range s.left {
		s.window[ac] = e.Window(ac)
		n, has := e.Left(ac)
		if !has && n != 0 {
			t.Fatalf("Left of %d: %d beside a false", ac, n)
		}
		s.left[ac] = n
		if !has {
			s.left[ac] = none
		}
	}
	return s
}

func mustBe(t *testing.T, e *Edca, want state) {
	t.Helper()
	if s := tell(t, e); s != want {
		t.Fatalf("is %v, not %v", s, want)
	}
}

// of is who is ready.
func of(acs ...int) (r [4]bool) {
	for _, ac := range acs {
		r[ac] = true
	}
	return r
}

// everyone is all sets of categories, the empty one first.
func everyone() (l [][4]bool) {
	for n := range 16 {
		l = append(l, [4]bool{n&1 != 0, n&2 != 0, n&4 != 0, n&8 != 0})
	}
	return l
}

// one is a draw of one category, the others' 0.
func one(ac int, draw uint32) (d [4]uint32) {
	d[ac] = draw
	return d
}

// same is the same draw of each.
func same(draw uint32) [4]uint32 { return [4]uint32{draw, draw, draw, draw} }

func mustWin(t *testing.T, e *Edca, ready [4]bool, draws [4]uint32, ac, slots int) {
	t.Helper()
	if a, n, is := e.Contend(ready, draws); a != ac || n != slots || !is {
		t.Fatalf("Contend(%v, %v): %d %d %v, not %d %d true", ready, draws, a, n, is, ac, slots)
	}
}

func mustEnd(t *testing.T, e *Edca, ac int, well bool) {
	t.Helper()
	if err := e.End(ac, well); err != nil {
		t.Fatal(err)
	}
}

// grown is one whose windows have become wider so often, of BK, BE, VI, VO.
func grown(t *testing.T, times ...int) *Edca {
	t.Helper()
	e := &Edca{}
	for ac, n := range times {
		for range n {
			mustEnd(t, e, ac, false)
		}
	}
	return e
}

// noCategories is what is none, those among it of which the low bits are as of one.
func noCategories() []int {
	l := []int{-1, -2, -3, -4, -5, -256, 4, 5, 6, 7, 8, 64, 256, 257, 1 << 16, 1<<31 - 1, math.MinInt, math.MinInt + 1, math.MaxInt, math.MaxInt - 3}
	for ac := range int64(4) {
		if far := int(ac + 1<<32); far > 3 {
			l = append(l, far)
		}
	}
	return l
}

func TestExample(t *testing.T) {
	var e Edca
	mustWin(t, &e, of(api.BE), [4]uint32{}, api.BE, 3)
	mustBe(t, &e, fresh())
}

func TestZero(t *testing.T) {
	var e Edca
	mustBe(t, &e, fresh())
	mustBe(t, e.Clone(), fresh())
	mustBe(t, new(Edca), fresh())
}

// TestNoneReady: nothing is answered, and nothing changes: no window, and no counter that is there.
func TestNoneReady(t *testing.T) {
	e := grown(t, 3, 1, 1, 1)
	mustWin(t, e, of(api.BK, api.BE, api.VO), [4]uint32{100, 20, 0, 0}, api.VO, 2)
	want := state{[4]int{127, 31, 15, 7}, [4]int{100, 20, none, none}}
	for _, e := range []*Edca{{}, e} {
		before := tell(t, e)
		for _, n := range []uint32{0, 1, 2, 3, 7, 15, 16, 1 << 31, math.MaxUint32} {
			if ac, slots, is := e.Contend([4]bool{}, same(n)); ac != 0 || slots != 0 || is {
				t.Fatal(ac, slots, is)
			}
			mustBe(t, e, before)
		}
	}
	mustBe(t, e, want)
}

// TestAlone: each category with each draw of each of its windows, and those further on that come to the same.
func TestAlone(t *testing.T) {
	for ac := range 4 {
		for times, window := range windows(ac) {
			for draw := range window + 1 {
				for _, more := range []int{0, 1, 2, 3, 1000} {
					e := &Edca{}
					for range times {
						mustEnd(t, e, ac, false)
					}
					before := tell(t, e)
					mustWin(t, e, of(ac), one(ac, uint32(draw+more*(window+1))), ac, wait(ac)+draw)
					mustBe(t, e, before)
				}
			}
		}
	}
}

// TestDrawAtItsEdges: of just the window, of one further, of the greatest there is, and of those beside.
func TestDrawAtItsEdges(t *testing.T) {
	for ac := range 4 {
		for times, window := range windows(ac) {
			for _, x := range []struct {
				draw  uint32
				slots int
			}{
				{0, 0}, {uint32(window) - 1, window - 1}, {uint32(window), window},
				{uint32(window) + 1, 0}, {uint32(window) + 2, 1},
				{2*uint32(window) + 1, window}, {2*uint32(window) + 2, 0},
				{1 << 31, 0}, {1<<31 - 1, window}, {1<<31 + 1, 1},
				{math.MaxUint32 - 1, window - 1}, {math.MaxUint32, window},
			} {
				e := &Edca{}
				for range times {
					mustEnd(t, e, ac, false)
				}
				mustWin(t, e, of(ac), one(ac, x.draw), ac, wait(ac)+x.slots)
			}
		}
	}
}

// TestDrawOfItsOwn: each one's draw is its own, and those of who is not ready are not asked.
func TestDrawOfItsOwn(t *testing.T) {
	for ac := range 4 {
		d := same(0)
		d[ac] = 3
		mustWin(t, &Edca{}, of(ac), d, ac, wait(ac)+3)
		d = same(3)
		d[ac] = 0
		e := &Edca{}
		mustWin(t, e, of(ac), d, ac, wait(ac))
		mustBe(t, e, fresh())
	}
}

func TestTwoThatPart(t *testing.T) {
	for _, x := range []struct {
		ready  [4]bool
		draws  [4]uint32
		ac, n  int
		counts [4]int
	}{
		// The times are 10 and 11, then 11 and 9.
		{of(api.BK, api.BE), [4]uint32{3, 8, 0, 0}, api.BK, 10, [4]int{none, 1, none, none}},
		{of(api.BK, api.BE), [4]uint32{4, 6, 0, 0}, api.BE, 9, [4]int{2, none, none, none}},
		// 8 and 9, then 22 and 9.
		{of(api.BK, api.VI), [4]uint32{1, 0, 7, 0}, api.BK, 8, [4]int{none, none, 1, none}},
		{of(api.BK, api.VI), [4]uint32{15, 0, 7, 0}, api.VI, 9, [4]int{13, none, none, none}},
		// 7 and 5, then 22 and 2: BK has not begun to count.
		{of(api.BK, api.VO), [4]uint32{0, 0, 0, 3}, api.VO, 5, [4]int{0, none, none, none}},
		{of(api.BK, api.VO), [4]uint32{15, 0, 0, 0}, api.VO, 2, [4]int{15, none, none, none}},
		// 3 and 4, then 18 and 8.
		{of(api.BE, api.VI), [4]uint32{0, 0, 2, 0}, api.BE, 3, [4]int{none, none, 1, none}},
		{of(api.BE, api.VI), [4]uint32{0, 15, 6, 0}, api.VI, 8, [4]int{none, 10, none, none}},
		// 4 and 5, then 3 and 2: BE has not begun to count.
		{of(api.BE, api.VO), [4]uint32{0, 1, 0, 3}, api.BE, 4, [4]int{none, none, none, 1}},
		{of(api.BE, api.VO), [4]uint32{0, 0, 0, 0}, api.VO, 2, [4]int{none, 0, none, none}},
		// 4 and 5, then 9 and 3.
		{of(api.VI, api.VO), [4]uint32{0, 0, 2, 3}, api.VI, 4, [4]int{none, none, none, 1}},
		{of(api.VI, api.VO), [4]uint32{0, 0, 7, 1}, api.VO, 3, [4]int{none, none, 6, none}},
	} {
		e := &Edca{}
		mustWin(t, e, x.ready, x.draws, x.ac, x.n)
		mustBe(t, e, state{fresh().window, x.counts})
	}
}

func TestFourThatPart(t *testing.T) {
	var e Edca
	// The times are 13, 13, 7 and 4: BK counts down by nothing, BE by 1, VI by 2.
	mustWin(t, &e, of(0, 1, 2, 3), [4]uint32{6, 10, 5, 2}, api.VO, 4)
	mustBe(t, &e, state{fresh().window, [4]int{6, 9, 3, none}})
	// 13, 12 and 5.
	mustWin(t, &e, of(0, 1, 2), [4]uint32{}, api.VI, 5)
	mustBe(t, &e, state{fresh().window, [4]int{6, 7, none, none}})
	// 13, 10, 9 and 5: VO's draw is 7 modulo 4.
	mustWin(t, &e, of(0, 1, 2, 3), [4]uint32{0, 0, 7, 7}, api.VO, 5)
	mustBe(t, &e, state{fresh().window, [4]int{6, 5, 4, none}})
	// 13 and 8: BK counts down by 1, VI is not there.
	mustWin(t, &e, of(0, 1), [4]uint32{}, api.BE, 8)
	mustBe(t, &e, state{fresh().window, [4]int{5, none, 4, none}})
	// 12, 18 and 6.
	mustWin(t, &e, of(0, 1, 2), [4]uint32{0, 15, 0, 0}, api.VI, 6)
	mustBe(t, &e, state{fresh().window, [4]int{5, 12, none, none}})
	// 12 and 15.
	mustWin(t, &e, of(0, 1), [4]uint32{}, api.BK, 12)
	mustBe(t, &e, state{fresh().window, [4]int{none, 3, none, none}})
}

// TestAllAtOnce: each set of categories that come to one slot, the 7th: the highest of them wins, and the windows of the
// others become wider.
func TestAllAtOnce(t *testing.T) {
	for _, ready := range everyone()[1:] {
		e := grown(t, 0, 0, 0, 1)
		winner := 0
		for ac, is := range ready {
			if is {
				winner = ac
			}
		}
		want := state{[4]int{31, 31, 15, 7}, [4]int{none, none, none, none}}
		for ac, is := range ready {
			if !is || ac == winner {
				want.window[ac] = tell(t, e).window[ac]
			}
		}
		mustWin(t, e, ready, [4]uint32{0, 4, 5, 5}, winner, 7)
		mustBe(t, e, want)
	}
}

// TestAllAtOnceBehindAnother: those that come to one slot had their counters already, or some of them.
func TestAllAtOnceBehindAnother(t *testing.T) {
	carried := func() *Edca {
		e := grown(t, 0, 0, 0, 1)
		// VO comes at 3; then BK has 0 left, BE 4, VI 5.
		mustWin(t, e, of(0, 1, 2, 3), [4]uint32{0, 4, 6, 1}, api.VO, 3)
		mustBe(t, e, state{[4]int{15, 15, 7, 7}, [4]int{0, 4, 5, none}})
		return e
	}
	e := carried()
	mustWin(t, e, of(0, 1, 2), same(0), api.VI, 7)
	mustBe(t, e, state{[4]int{31, 31, 7, 7}, [4]int{none, none, none, none}})
	// VO draws now, the others have theirs.
	e = carried()
	mustWin(t, e, of(0, 1, 2, 3), [4]uint32{9, 9, 9, 5}, api.VO, 7)
	mustBe(t, e, state{[4]int{31, 31, 15, 7}, [4]int{none, none, none, none}})
	// BK has its counter still; BE and VI, that have none any more, draw now.
	e = carried()
	mustWin(t, e, of(1), same(0), api.BE, 7)
	mustWin(t, e, of(2), same(0), api.VI, 7)
	mustBe(t, e, state{[4]int{15, 15, 7, 7}, [4]int{0, none, none, none}})
	mustWin(t, e, of(0, 1, 2), [4]uint32{1, 4, 5, 0}, api.VI, 7)
	mustBe(t, e, state{[4]int{31, 31, 7, 7}, [4]int{none, none, none, none}})
	// One who is not ready is none of them.
	e = carried()
	mustWin(t, e, of(0, 1), same(0), api.BE, 7)
	mustBe(t, e, state{[4]int{31, 15, 7, 7}, [4]int{none, none, 5, none}})
}

// TestSomeAtOnce: beside those that come to one slot there is one that comes later.
func TestSomeAtOnce(t *testing.T) {
	var e Edca
	mustWin(t, &e, of(0, 1, 2, 3), [4]uint32{4, 1, 2, 3}, api.VI, 4)
	mustBe(t, &e, state{[4]int{15, 31, 7, 3}, [4]int{4, none, none, 1}})
	mustWin(t, &e, of(0, 1, 3), [4]uint32{0, 31, 0, 0}, api.VO, 3)
	mustBe(t, &e, state{[4]int{15, 31, 7, 3}, [4]int{4, 31, none, none}})
	mustWin(t, &e, of(0, 1, 2), [4]uint32{0, 0, 7, 0}, api.VI, 9)
	mustBe(t, &e, state{[4]int{15, 31, 7, 3}, [4]int{2, 25, none, none}})
	// VI and BK come to the 9th slot, BE has 19 left.
	mustWin(t, &e, of(0, 1, 2), [4]uint32{0, 0, 7, 0}, api.VI, 9)
	mustBe(t, &e, state{[4]int{31, 31, 7, 3}, [4]int{none, 19, none, none}})
}

// TestDrawIsOfTheWiderWindow: whose window became wider draws from all of it.
func TestDrawIsOfTheWiderWindow(t *testing.T) {
	var e Edca
	mustWin(t, &e, of(api.BE, api.VI), [4]uint32{0, 0, 1, 0}, api.VI, 3)
	mustBe(t, &e, fresh().but(api.BE, 31))
	mustWin(t, &e, of(api.BE), [4]uint32{0, 31, 0, 0}, api.BE, 34)
	mustWin(t, &e, of(api.BE), [4]uint32{0, 32, 0, 0}, api.BE, 3)
	mustEnd(t, &e, api.BE, true)
	mustWin(t, &e, of(api.BE), [4]uint32{0, 31, 0, 0}, api.BE, 18)
	mustWin(t, &e, of(api.BE), [4]uint32{0, 16, 0, 0}, api.BE, 3)
}

// TestReadyWithCounter: who is ready and has a counter is not asked for its draw.
func TestReadyWithCounter(t *testing.T) {
	for _, n := range []uint32{0, 1, 2, 5, 15, 16, 1 << 31, math.MaxUint32} {
		var e Edca
		mustWin(t, &e, of(0, 1, 2, 3), [4]uint32{12, 11, 6, 1}, api.VO, 3)
		mustBe(t, &e, state{fresh().window, [4]int{12, 11, 5, none}})
		mustWin(t, &e, of(0, 1, 2), same(n), api.VI, 7)
		mustBe(t, &e, state{fresh().window, [4]int{12, 7, none, none}})
		mustWin(t, &e, of(0, 1), same(n), api.BE, 10)
		mustBe(t, &e, state{fresh().window, [4]int{9, none, none, none}})
		mustWin(t, &e, of(0), same(n), api.BK, 16)
		mustBe(t, &e, fresh())
	}
}

// TestCounterOfNothing: one of 0 is one as well: its draw is not asked, and it is told.
func TestCounterOfNothing(t *testing.T) {
	for _, n := range []uint32{0, 1, 7, 15, math.MaxUint32} {
		var e Edca
		mustWin(t, &e, of(api.BK, api.BE, api.VO), same(0), api.VO, 2)
		mustBe(t, &e, state{fresh().window, [4]int{0, 0, none, none}})
		mustWin(t, &e, of(api.BE), same(n), api.BE, 3)
		mustBe(t, &e, state{fresh().window, [4]int{0, none, none, none}})
		mustWin(t, &e, of(api.BK), same(n), api.BK, 7)
		mustBe(t, &e, fresh())
	}
}

// TestWhoIsNotReadyKeepsItsCounter: however long the others count, and whoever wins.
func TestWhoIsNotReadyKeepsItsCounter(t *testing.T) {
	for _, x := range []struct{ who, left, other int }{
		{api.BK, 15, api.BE}, {api.BE, 14, api.VI}, {api.VI, 7, api.VO}, {api.VO, 6, api.VI},
	} {
		for _, ready := range everyone()[1:] {
			if ready[x.who] {
				continue
			}
			e := grown(t, 0, 0, 0, 1)
			// The other one comes ahead of it, before it counts.
			mustWin(t, e, of(x.who, x.other), one(x.who, uint32(x.left)), x.other, wait(x.other))
			for n := range uint32(50) {
				e.Contend(ready, [4]uint32{n, 3 * n, 5 * n, 7 * n})
				if left := tell(t, e).left[x.who]; left != x.left {
					t.Fatal(x.who, "has", left, "not", x.left)
				}
			}
			mustWin(t, e, of(x.who), same(0), x.who, wait(x.who)+x.left)
		}
	}
}

// TestCounterDoesNotComeBelowNothing: a transmission ahead of what one waits takes nothing of its counter, and gives
// nothing to it.
func TestCounterDoesNotComeBelowNothing(t *testing.T) {
	for _, left := range []int{0, 1, 2, 9, 15} {
		var e Edca
		draws := [4]uint32{uint32(left), 0, 0, 0}
		for slots := 2; slots <= 5; slots++ {
			draws[api.VO] = uint32(slots - 2)
			mustWin(t, &e, of(api.BK, api.VO), draws, api.VO, slots)
			mustBe(t, &e, state{fresh().window, [4]int{left, none, none, none}})
		}
		for slots := 3; slots <= 6; slots++ {
			draws[api.BE] = uint32(slots - 3)
			mustWin(t, &e, of(api.BK, api.BE), draws, api.BE, slots)
			mustBe(t, &e, state{fresh().window, [4]int{left, none, none, none}})
		}
	}
	var e Edca
	// As long as VO comes at 2, BE, that waits 3, stays where it is; at 3 too; at 4 it counts.
	mustWin(t, &e, of(api.BE, api.VO), [4]uint32{0, 2, 0, 0}, api.VO, 2)
	mustWin(t, &e, of(api.BE, api.VO), [4]uint32{0, 0, 0, 1}, api.VO, 3)
	mustBe(t, &e, state{fresh().window, [4]int{none, 2, none, none}})
	mustWin(t, &e, of(api.BE, api.VO), [4]uint32{0, 0, 0, 2}, api.VO, 4)
	mustBe(t, &e, state{fresh().window, [4]int{none, 1, none, none}})
}

// TestCountsToNothing: a counter comes to 1 at least, as who has less left is of that slot itself.
func TestCountsToNothing(t *testing.T) {
	var e Edca
	mustWin(t, &e, of(api.BK, api.VI), [4]uint32{2, 0, 6, 0}, api.VI, 8)
	mustBe(t, &e, state{fresh().window, [4]int{1, none, none, none}})
	mustWin(t, &e, of(api.BK, api.VI), [4]uint32{0, 0, 6, 0}, api.VI, 8)
	mustBe(t, &e, fresh().but(api.BK, 31))
}

// TestWider: each window from its first to its most, and further, by an End that went ill.
func TestWider(t *testing.T) {
	for ac := range 4 {
		var e Edca
		for _, window := range windows(ac) {
			mustBe(t, &e, fresh().but(ac, window))
			mustEnd(t, &e, ac, false)
		}
		most := windows(ac)[len(windows(ac))-1]
		for range 100 {
			mustBe(t, &e, fresh().but(ac, most))
			mustEnd(t, &e, ac, false)
		}
		mustEnd(t, &e, ac, true)
		mustBe(t, &e, fresh())
	}
}

// TestWiderByMeeting: each window from its first to its most, and further, by another one of the same slot.
func TestWiderByMeeting(t *testing.T) {
	for ac := range 3 {
		var e Edca
		seen := windows(ac)
		for n := range len(seen) + 20 {
			// Both come as early as both may.
			slots := max(wait(ac), wait(ac+1))
			draws := one(ac, uint32(slots-wait(ac)))
			draws[ac+1] = uint32(slots - wait(ac+1))
			mustBe(t, &e, fresh().but(ac, seen[min(n, len(seen)-1)]))
			mustWin(t, &e, of(ac, ac+1), draws, ac+1, slots)
		}
		mustEnd(t, &e, ac, true)
		mustBe(t, &e, fresh())
	}
}

// TestEndWell: from each window it is as at first, and those of the others stay.
func TestEndWell(t *testing.T) {
	for ac := range 4 {
		for times := range 10 {
			e := grown(t, times, times, times, times)
			want := tell(t, e)
			mustEnd(t, e, ac, true)
			mustBe(t, e, want.but(ac, windows(ac)[0]))
			mustEnd(t, e, ac, true)
			mustBe(t, e, want.but(ac, windows(ac)[0]))
		}
	}
}

// TestEndIll: from each window it is the next one, and those of the others stay.
func TestEndIll(t *testing.T) {
	for ac := range 4 {
		for times := range 10 {
			e := grown(t, times, times, times, times)
			want := tell(t, e)
			mustEnd(t, e, ac, false)
			mustBe(t, e, want.but(ac, windows(ac)[min(times+1, len(windows(ac))-1)]))
		}
	}
}

// TestEndLeavesCounters: one that is there stays, also above the window that is less now; where there is none, there is
// none behind it.
func TestEndLeavesCounters(t *testing.T) {
	e := grown(t, 6, 2, 1, 1)
	mustWin(t, e, of(0, 1, 2, 3), [4]uint32{1023, 63, 15, 7}, api.VO, 9)
	counts := [4]int{1021, 57, 8, none}
	mustBe(t, e, state{[4]int{1023, 63, 15, 7}, counts})
	for ac, window := range fresh().window {
		mustEnd(t, e, ac, true)
		if e.Window(ac) != window {
			t.Fatal(ac, e.Window(ac))
		}
		if s := tell(t, e); s.left != counts {
			t.Fatal(s)
		}
	}
	mustBe(t, e, state{fresh().window, counts})
	for ac := range 4 {
		mustEnd(t, e, ac, false)
	}
	mustBe(t, e, state{[4]int{31, 31, 15, 7}, counts})
	// The counters count on from where they are.
	mustWin(t, e, of(0, 1, 2), same(0), api.VI, 10)
	mustBe(t, e, state{[4]int{31, 31, 15, 7}, [4]int{1018, 50, none, none}})
	mustWin(t, e, of(0, 1), same(0), api.BE, 53)
	mustBe(t, e, state{[4]int{31, 31, 15, 7}, [4]int{972, none, none, none}})
	mustWin(t, e, of(0), same(0), api.BK, 979)
	mustBe(t, e, state{[4]int{31, 31, 15, 7}, [4]int{none, none, none, none}})
}

// TestEndOfNone: the error, and nothing changes.
func TestEndOfNone(t *testing.T) {
	e := grown(t, 2, 1, 1, 1)
	mustWin(t, e, of(0, 1, 3), [4]uint32{50, 20, 0, 4}, api.VO, 6)
	want := state{[4]int{63, 31, 15, 7}, [4]int{50, 17, none, none}}
	for _, ac := range noCategories() {
		for _, well := range []bool{true, false} {
			if err := e.End(ac, well); err != api.ErrRange {
				t.Fatal(ac, well, err)
			}
			mustBe(t, e, want)
		}
	}
	var zero Edca
	for _, ac := range noCategories() {
		if zero.End(ac, false) != api.ErrRange || zero.End(ac, true) != api.ErrRange {
			t.Fatal(ac)
		}
	}
	mustBe(t, &zero, fresh())
}

func TestWindowAndLeftOfNone(t *testing.T) {
	e := grown(t, 1, 1, 1, 1)
	mustWin(t, e, of(0, 1, 2, 3), [4]uint32{9, 9, 9, 0}, api.VO, 2)
	for _, e := range []*Edca{{}, e} {
		for _, ac := range noCategories() {
			if e.Window(ac) != 0 {
				t.Fatal(ac, e.Window(ac))
			}
			if n, has := e.Left(ac); n != 0 || has {
				t.Fatal(ac, n, has)
			}
		}
	}
}

// TestAskingChangesNothing: Window, Left and Clone do not.
func TestAskingChangesNothing(t *testing.T) {
	e := grown(t, 1, 0, 1, 0)
	mustWin(t, e, of(0, 1, 3), [4]uint32{20, 7, 0, 1}, api.VO, 3)
	want := state{[4]int{31, 15, 15, 3}, [4]int{20, 7, none, none}}
	for range 5 {
		mustBe(t, e, want)
		e.Clone()
	}
}

// TestClone: a copy is as the one it was made of, and each goes its own way.
func TestClone(t *testing.T) {
	e := grown(t, 1, 0, 1, 0)
	mustWin(t, e, of(0, 1, 3), [4]uint32{20, 7, 0, 1}, api.VO, 3)
	was := state{[4]int{31, 15, 15, 3}, [4]int{20, 7, none, none}}
	c := e.Clone()
	mustBe(t, c, was)
	// The one goes on: the copy stays.
	mustWin(t, e, of(0, 1), same(0), api.BE, 10)
	mustEnd(t, e, api.BE, false)
	mustEnd(t, e, api.VI, true)
	now := state{[4]int{31, 31, 7, 3}, [4]int{17, none, none, none}}
	mustBe(t, e, now)
	mustBe(t, c, was)
	// The copy goes on: the one stays, and a copy of the copy does.
	d := c.Clone()
	mustWin(t, c, of(0, 1, 3), same(math.MaxUint32), api.VO, 5)
	mustWin(t, c, of(1), same(0), api.BE, 8)
	mustEnd(t, c, api.BK, true)
	mustEnd(t, c, api.VO, false)
	mustBe(t, c, state{[4]int{15, 15, 15, 7}, [4]int{20, none, none, none}})
	mustBe(t, e, now)
	mustBe(t, d, was)
	mustWin(t, d, of(0, 1), same(9), api.BE, 10)
	mustBe(t, e, now)
}

// TestTwoOfThem: what one does is nothing to another one.
func TestTwoOfThem(t *testing.T) {
	var a, b Edca
	mustWin(t, &a, of(0, 1), [4]uint32{9, 9, 0, 0}, api.BE, 12)
	mustEnd(t, &a, api.VO, false)
	mustBe(t, &b, fresh())
	mustWin(t, &b, of(0, 1), [4]uint32{2, 6, 0, 0}, api.BE, 9)
	mustBe(t, &b, fresh().but(api.BK, 31))
	mustBe(t, &a, state{[4]int{15, 15, 7, 7}, [4]int{4, none, none, none}})
}

// TestKeepsNothingOfWhatEnded: behind what left no counter and no wider window it is as a new one in all that it keeps.
func TestKeepsNothingOfWhatEnded(t *testing.T) {
	var e Edca
	for ac := range 4 {
		mustWin(t, &e, of(ac), same(3), ac, wait(ac)+3)
		mustEnd(t, &e, ac, false)
	}
	mustWin(t, &e, of(0, 1, 2, 3), [4]uint32{0, 4, 5, 5}, api.VO, 7)
	for ac := range 4 {
		mustEnd(t, &e, ac, true)
	}
	if e != (Edca{}) {
		t.Fatal(e)
	}
}

// TestTwentyRounds: in a row, the winner's transmission told behind each: it went well, ill, or nothing is said of it.
// The numbers were worked out apart from the program, by the chapter's words.
func TestTwentyRounds(t *testing.T) {
	const well, ill, open = 1, 2, 3
	const bk, be, vi, vo = api.BK, api.BE, api.VI, api.VO
	var e Edca
	for i, x := range []struct {
		ready   [4]bool
		draws   [4]uint32
		end     int
		ac, n   int
		windows [4]int
		left    [4]int
	}{
		{of(bk, be, vi, vo), [4]uint32{65536, 1, 8, 20}, well, vo, 2, [4]int{15, 15, 15, 3}, [4]int{0, 1, none, none}},
		{of(bk, be, vi, vo), [4]uint32{4, 24, 8, 34}, open, vo, 4, [4]int{15, 31, 15, 3}, [4]int{0, none, 6, none}},
		{of(bk, vi), [4]uint32{11, 36, 8, 4294967280}, open, bk, 7, [4]int{15, 31, 15, 3}, [4]int{none, none, 1, none}},
		{of(bk, be, vi, vo), [4]uint32{4, 2147483648, 0, 5}, well, vo, 3, [4]int{15, 63, 15, 3}, [4]int{4, none, none, none}},
		{of(be, vo), [4]uint32{65539, 4294967295, 27, 5}, open, vo, 3, [4]int{15, 63, 15, 3}, [4]int{4, 63, none, none}},
		{of(bk, be, vi, vo), [4]uint32{20, 2147483648, 10, 1}, well, vo, 3, [4]int{15, 63, 15, 3}, [4]int{4, 63, 9, none}},
		{of(be), [4]uint32{1, 19, 4, 6}, well, be, 66, [4]int{15, 15, 15, 3}, [4]int{4, none, 9, none}},
		{of(bk, be, vi), [4]uint32{1, 2147483653, 1, 3}, ill, be, 8, [4]int{15, 31, 15, 3}, [4]int{3, none, 3, none}},
		{of(bk, vi, vo), [4]uint32{3, 6, 2147483648, 65536}, open, vo, 2, [4]int{15, 31, 15, 3}, [4]int{3, none, 3, none}},
		{of(bk, be), [4]uint32{3, 19, 2147483653, 8}, ill, bk, 10, [4]int{31, 31, 15, 3}, [4]int{none, 12, 3, none}},
		{of(bk, be, vi, vo), [4]uint32{1, 8, 4, 6}, well, vo, 4, [4]int{31, 31, 15, 3}, [4]int{1, 11, 1, none}},
		{of(bk, be, vi, vo), [4]uint32{3, 28, 2, 6}, ill, vi, 3, [4]int{31, 31, 15, 3}, [4]int{1, 11, none, 1}},
		{of(bk, be, vi, vo), [4]uint32{7, 2, 4294967280, 22}, ill, vi, 2, [4]int{31, 31, 15, 3}, [4]int{1, 11, none, 1}},
		{of(be, vi, vo), [4]uint32{4294967295, 0, 7, 5}, ill, vo, 3, [4]int{31, 31, 15, 7}, [4]int{1, 11, 6, none}},
		{of(bk, be, vi), [4]uint32{2, 6, 4294967295, 8}, ill, vi, 8, [4]int{63, 31, 15, 7}, [4]int{none, 6, none, none}},
		{of(bk, be), [4]uint32{3, 4, 15, 35}, ill, be, 9, [4]int{63, 63, 15, 7}, [4]int{1, none, none, none}},
		{of(bk, be), [4]uint32{5, 6, 1, 6}, ill, bk, 8, [4]int{127, 63, 15, 7}, [4]int{none, 1, none, none}},
		{of(bk, be, vi, vo), [4]uint32{2147483648, 65536, 4, 4}, well, be, 4, [4]int{127, 15, 15, 7}, [4]int{0, none, 2, 2}},
		{of(bk, be, vi, vo), [4]uint32{20, 0, 9, 6}, well, be, 3, [4]int{127, 15, 15, 7}, [4]int{0, none, 1, 1}},
		{of(be, vi, vo), [4]uint32{2147483648, 4, 0, 3}, open, vo, 3, [4]int{127, 15, 15, 7}, [4]int{0, 4, none, none}},
	} {
		mustWin(t, &e, x.ready, x.draws, x.ac, x.n)
		if x.end != open {
			mustEnd(t, &e, x.ac, x.end == well)
		}
		if s := tell(t, &e); s != (state{x.windows, x.left}) {
			t.Fatalf("round %d: %v", i, s)
		}
	}
}

// rival is the chapter played out slot by slot: each one waits, then counts down a slot at a time, till one is done.
type rival struct {
	step [4]int // the place of its window among its windows
	left [4]int
}

func newRival() *rival { return &rival{left: fresh().left} }

func (r *rival) window(ac int) int { return windows(ac)[r.step[ac]] }

func (r *rival) widen(ac int) { r.step[ac] = min(r.step[ac]+1, len(windows(ac))-1) }

func (r *rival) contend(ready [4]bool, draws [4]uint32) (int, int, bool) {
	if ready == of() {
		return 0, 0, false
	}
	for ac, is := range ready {
		if is && r.left[ac] == none {
			// A window and 1 is a power of two.
			r.left[ac] = int(draws[ac] & uint32(r.window(ac)))
		}
	}
	for slot := 0; ; slot++ {
		var done []int
		for ac, is := range ready {
			if is && slot >= wait(ac) && r.left[ac] == 0 {
				done = append(done, ac)
			}
		}
		for i, ac := range done {
			r.left[ac] = none
			if i < len(done)-1 {
				r.widen(ac)
			}
		}
		if len(done) > 0 {
			return done[len(done)-1], slot, true
		}
		for ac, is := range ready {
			if is && slot >= wait(ac) {
				r.left[ac]--
			}
		}
	}
}

func (r *rival) end(ac int, well bool) error {
	switch {
	case ac < api.BK || ac > api.VO:
		return api.ErrRange
	case well:
		r.step[ac] = 0
	default:
		r.widen(ac)
	}
	return nil
}

func (r *rival) state() state {
	s := state{left: r.left}
	for ac := range s.window {
		s.window[ac] = r.window(ac)
	}
	return s
}

func (r *rival) clone() *rival {
	c := *r
	return &c
}

// mustContendAsRival asks both, and tells how many came to the slot of the winner, and if one of them had its counter
// ahead of it.
func mustContendAsRival(t *testing.T, e *Edca, r *rival, ready [4]bool, draws [4]uint32) (int, bool) {
	t.Helper()
	before := r.state().left
	ac, n, is := e.Contend(ready, draws)
	ac2, n2, is2 := r.contend(ready, draws)
	if ac != ac2 || n != n2 || is != is2 {
		t.Fatalf("Contend(%v, %v): %d %d %v, not %d %d %v", ready, draws, ac, n, is, ac2, n2, is2)
	}
	mustBe(t, e, r.state())
	met, had := 0, false
	for ac, takesPart := range ready {
		if takesPart && r.left[ac] == none {
			met++
			had = had || before[ac] != none
		}
	}
	return met, had
}

// TestEveryDraw: all sets of who is ready, with all draws of the first windows.
func TestEveryDraw(t *testing.T) {
	for _, ready := range everyone() {
		for n := range 16 * 16 * 8 * 4 {
			d := [4]uint32{uint32(n % 16), uint32(n / 16 % 16), uint32(n / 256 % 8), uint32(n / 2048)}
			mustContendAsRival(t, &Edca{}, newRival(), ready, d)
		}
	}
}

// dice is numbers that look like thrown ones, the same each time.
type dice uint64

func (d *dice) throw() uint64 {
	*d += 0x9e3779b97f4a7c15
	x := uint64(*d)
	x = (x ^ x>>30) * 0xbf58476d1ce4e5b9
	x = (x ^ x>>27) * 0x94d049bb133111eb
	return x ^ x>>31
}

func (d *dice) below(n int) int { return int(d.throw() % uint64(n)) }

// draw is a small one mostly, so that some meet, or one of any size.
func (d *dice) draw() uint32 {
	switch d.below(8) {
	case 0:
		return uint32(d.throw())
	case 1:
		return math.MaxUint32 - uint32(d.below(3))
	case 2, 3:
		return uint32(d.below(1100))
	}
	return uint32(d.below(10))
}

// draws is any, or those that bring all to one slot, as far as windows and counters let them.
func (d *dice) draws() [4]uint32 {
	if d.below(4) == 0 {
		slot := uint32(7 + d.below(6))
		return [4]uint32{slot - 7, slot - 3, slot - 2, slot - 2}
	}
	return [4]uint32{d.draw(), d.draw(), d.draw(), d.draw()}
}

// ready is any set, that of all of them often.
func (d *dice) ready() [4]bool { return everyone()[min(d.below(24), 15)] }

// TestModel: long courses, of one and of copies of it, each step held against the rival.
func TestModel(t *testing.T) {
	var met [5]int
	carried := 0
	for seed := range 400 {
		d := dice(seed)
		e, r := &Edca{}, newRival()
		e2, r2 := e.Clone(), r.clone()
		for range 200 {
			switch d.below(12) {
			case 0:
				e2, r2 = e.Clone(), r.clone()
			case 1:
				e, r, e2, r2 = e2, r2, e, r
			case 2, 3, 4:
				ac, well := d.below(6)-1, d.below(4) == 0
				if err, err2 := e.End(ac, well), r.end(ac, well); err != err2 {
					t.Fatal(ac, well, err, err2)
				}
			default:
				n, had := mustContendAsRival(t, e, r, d.ready(), d.draws())
				met[n]++
				if n > 1 && had {
					carried++
				}
			}
			mustBe(t, e, r.state())
			mustBe(t, e2, r2.state())
		}
	}
	// The courses have to have come to what they are for.
	for n, times := range met {
		if times < 20 {
			t.Errorf("%d met %d times", n, times)
		}
	}
	if carried < 1000 {
		t.Error("met with a counter", carried, "times")
	}
}

// FuzzEdca: a course of any bytes, held against the rival.
func FuzzEdca(f *testing.F) {
	f.Add([]byte{})
	f.Add([]byte{15, 0, 4, 5, 5, 0x10, 3, 15, 0, 4, 5, 5})
	f.Add([]byte{0x11, 3, 0x20, 15, 1, 2, 3, 0, 0x30, 15, 0, 0, 0, 0, 0x31, 9})
	f.Fuzz(func(t *testing.T, b []byte) {
		e, r := &Edca{}, newRival()
		e2, r2 := e.Clone(), r.clone()
		next := func() (n byte) {
			if len(b) > 0 {
				n, b = b[0], b[1:]
			}
			return n
		}
		for len(b) > 0 {
			op := next()
			switch op >> 4 & 3 {
			case 0:
				var d [4]uint32
				for ac := range d {
					// From small ones to the greatest.
					n := uint32(next())
					d[ac] = n << (n >> 5 * 4) >> (op >> 6)
				}
				mustContendAsRival(t, e, r, everyone()[op&15], d)
			case 1:
				ac := int(next())%8 - 2
				if err, err2 := e.End(ac, op&1 == 0), r.end(ac, op&1 == 0); err != err2 {
					t.Fatal(ac, err, err2)
				}
			case 2:
				e2, r2 = e.Clone(), r.clone()
			case 3:
				e, r, e2, r2 = e2, r2, e, r
			}
			mustBe(t, e, r.state())
			mustBe(t, e2, r2.state())
		}
	})
}
