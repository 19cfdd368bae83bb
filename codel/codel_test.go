package codel

import (
	"math"
	"math/big"
	"slices"
	"testing"

	"muezzin/api"
	"muezzin/inv"
)

// What is asked where a test names nothing else, and the ends that the chapter names.
const (
	target    = 100
	interval  = 1000
	lastCount = math.MaxUint32
)

// pull is what one pull is asked, of the state c.
type pull struct {
	c                     Codel
	now, target, interval int64
	bytes                 int
	l                     []api.Item
}

// answer is what it answers.
type answer struct {
	c  Codel
	n  int
	is bool
}

// row is n items of a length that came at one time.
func row(n, length int, at int64) []api.Item {
	return slices.Repeat([]api.Item{{At: at, Len: length}}, n)
}

// all is the bytes of the items.
func all(l []api.Item) int {
	sum := 0
	for _, x := range l {
		sum += x.Len
	}
	return sum
}

// ask pulls, and fails unless what was handed in stays as it was, behind its length too.
func ask(t *testing.T, p pull) answer {
	t.Helper()
	spare := append(slices.Clone(p.l), api.Item{At: 11, Len: 22}, api.Item{At: 33, Len: 44})
	before, asked := slices.Clone(spare), p.c
	var a answer
	a.c, a.n, a.is = p.c.Pull(p.now, p.target, p.interval, p.bytes, spare[:len(p.l)]...)
	if !slices.Equal(spare, before) {
		t.Errorf("%+v: the items are %v behind it", p, spare)
	}
	if p.c != asked {
		t.Errorf("%+v: the one that was asked was %+v", p, asked)
	}
	return a
}

// mustPull fails unless a pull with target, interval and the bytes of l answers that.
func mustPull(t *testing.T, c Codel, now int64, l []api.Item, want Codel, n int, is bool) {
	t.Helper()
	p := pull{c, now, target, interval, all(l), l}
	if got := ask(t, p); got != (answer{want, n, is}) {
		t.Errorf("%+v = %+v, want %+v, %d, %v", p, got, want, n, is)
	}
}

// minus is a less b, without bounds.
func minus(a, b int64) *big.Int {
	return new(big.Int).Sub(big.NewInt(a), big.NewInt(b))
}

// model is Pull as the chapter words it, without bounds; a sum that no state holds is the last that one holds.
func model(p pull) answer {
	c, n := p.c, 0
	goal := min(max(p.target, 0), 1<<30)
	long := min(max(p.interval, 0), 1<<30)
	bytes := big.NewInt(int64(p.bytes))
	look := func() bool {
		if n >= len(p.l) {
			c.First = 0
			return false
		}
		bytes.Sub(bytes, big.NewInt(int64(max(p.l[n].Len, 0))))
		if minus(p.now, p.l[n].At).Cmp(big.NewInt(goal)) < 0 || bytes.Cmp(big.NewInt(1514)) <= 0 {
			c.First = 0
			return false
		}
		if c.First == 0 {
			c.First = math.MaxInt64
			if first := minus(p.now, -long); first.IsInt64() {
				c.First = first.Int64()
			}
			return false
		}
		return p.now >= c.First
	}
	late := look()
	if len(p.l) == 0 {
		c.Dropping = false
		return answer{c, 0, false}
	}
	if c.Dropping {
		if !late {
			c.Dropping = false
		}
		for p.now >= c.Drop && c.Dropping {
			n++
			c.Count = uint32(min(uint64(c.Count)+1, lastCount))
			late = look()
			if n == len(p.l) || !late {
				c.Dropping = false
			} else {
				c.Drop = inv.Next(c.Drop, long, c.Count)
			}
		}
	} else if late {
		n++
		look()
		c.Dropping = true
		around := (uint64(1<<32) + uint64(c.Count) - uint64(c.Last)) % (1 << 32)
		c.Count = 1
		if around > 1 && minus(p.now, c.Drop).Cmp(big.NewInt(16*long)) < 0 {
			c.Count = uint32(around)
		}
		c.Last = c.Count
		c.Drop = inv.Next(p.now, long, c.Count)
	}
	return answer{c, n, n < len(p.l)}
}

// check fails unless the pull answers what the model does.
func check(t *testing.T, p pull) answer {
	t.Helper()
	got := ask(t, p)
	if want := model(p); got != want {
		t.Errorf("%+v = %+v, want %+v", p, got, want)
	}
	return got
}

// P11.1: none.

func TestNone(t *testing.T) {
	mustPull(t, Codel{}, 0, nil, Codel{}, 0, false)
	mustPull(t, Codel{}, 500, []api.Item{}, Codel{}, 0, false)
	// What was begun ends; what is remembered stays.
	full := Codel{First: 5, Drop: 7, Count: 9, Last: 4, Dropping: true}
	mustPull(t, full, 500, nil, Codel{Drop: 7, Count: 9, Last: 4}, 0, false)
	full.Dropping = false
	mustPull(t, full, 500, nil, Codel{Drop: 7, Count: 9, Last: 4}, 0, false)
	// The bytes alone are no packet.
	for _, bytes := range []int{1515, 1 << 20, math.MaxInt, math.MinInt} {
		p := pull{Codel{First: 5, Dropping: true}, 500, target, interval, bytes, nil}
		if got := ask(t, p); got != (answer{}) {
			t.Errorf("%+v = %+v", p, got)
		}
	}
}

// P11.1: to look.

// TestWaited asks about the time at which the first one's wait is just the target.
func TestWaited(t *testing.T) {
	for _, at := range []int64{0, 7, 1 << 40, api.MaxTime - target - 1} {
		l := row(10, 1000, at)
		mustPull(t, Codel{}, at, l, Codel{}, 0, true)
		mustPull(t, Codel{}, at+target-1, l, Codel{}, 0, true)
		mustPull(t, Codel{}, at+target, l, Codel{First: at + target + interval}, 0, true)
		mustPull(t, Codel{}, at+target+1, l, Codel{First: at + target + 1 + interval}, 0, true)
		mustPull(t, Codel{First: 5}, at+target-1, l, Codel{}, 0, true)
		mustPull(t, Codel{First: at + target + 1}, at+target, l, Codel{First: at + target + 1}, 0, true)
	}
	// It came later than it is now.
	mustPull(t, Codel{First: 5}, 500, row(10, 1000, 501), Codel{}, 0, true)
	mustPull(t, Codel{First: 5}, 500, row(10, 1000, math.MaxInt64), Codel{}, 0, true)
	mustPull(t, Codel{}, 500, row(10, 1000, math.MinInt64), Codel{First: 1500}, 0, true)
	// The first one's wait counts, not the others'.
	mustPull(t, Codel{First: 5}, 500, append(row(1, 1000, 401), row(9, 1000, 0)...), Codel{}, 0, true)
	mustPull(t, Codel{}, 500, append(row(1, 1000, 400), row(9, 1000, 500)...), Codel{First: 1500}, 0, true)
}

// TestBytes asks with just a few bytes behind the first one, and one more.
func TestBytes(t *testing.T) {
	for _, long := range []int{0, 1, 700, 1500, 1 << 20} {
		for more, want := range map[int]int64{-long: 0, 0: 0, 1513: 0, 1514: 0, 1515: 1500, 1516: 1500, 1 << 20: 1500} {
			p := pull{Codel{}, 500, target, interval, long + more, row(1, long, 0)}
			if got := ask(t, p); got != (answer{Codel{First: want}, 0, true}) {
				t.Errorf("%+v = %+v, want a First of %d", p, got, want)
			}
			p.c.First = 501
			if want > 0 {
				want = 501
			}
			if got := ask(t, p); got != (answer{Codel{First: want}, 0, true}) {
				t.Errorf("%+v = %+v, want a First of %d", p, got, want)
			}
		}
	}
	mustPull(t, Codel{First: 5}, 500, row(2, 1514, 0), Codel{}, 0, true)
	mustPull(t, Codel{First: 501}, 500, row(2, 1515, 0), Codel{First: 501}, 0, true)
}

// TestBytesTold: the bytes are those that are told, whatever the items are.
func TestBytesTold(t *testing.T) {
	for _, bytes := range []int{math.MinInt, math.MinInt + 1, -1, 0, 1, 1514, 2514} {
		for _, long := range []int{1000, math.MaxInt} {
			p := pull{Codel{First: 5, Dropping: true, Drop: 7}, 500, target, interval, bytes, row(3, long, 0)}
			if got := ask(t, p); got != (answer{Codel{Drop: 7}, 0, true}) {
				t.Errorf("%+v = %+v", p, got)
			}
		}
	}
	for _, bytes := range []int{2515, 1 << 20, math.MaxInt} {
		p := pull{Codel{}, 500, target, interval, bytes, row(1, 1000, 0)}
		if got := ask(t, p); got != (answer{Codel{First: 1500}, 0, true}) {
			t.Errorf("%+v = %+v", p, got)
		}
	}
}

// TestLenBelow0: a length below 0 is none.
func TestLenBelow0(t *testing.T) {
	for _, long := range []int{0, -1, -7, -1514, -1 << 40, math.MinInt} {
		for bytes, want := range map[int]int64{1513: 0, 1514: 0, 1515: 1500, math.MaxInt: 1500, -1: 0, math.MinInt: 0} {
			p := pull{Codel{}, 500, target, interval, bytes, row(1, long, 0)}
			if got := ask(t, p); got != (answer{Codel{First: want}, 0, true}) {
				t.Errorf("%+v = %+v, want a First of %d", p, got, want)
			}
		}
		// Behind one that is dropped, too.
		c := Codel{First: 5, Drop: 499, Count: 1, Dropping: true}
		p := pull{c, 500, target, interval, 1515, append(row(2, long, 0), row(1, 1, 0)...)}
		want := Codel{First: 5, Drop: 1206, Count: 2, Dropping: true}
		if got := ask(t, p); got != (answer{want, 1, true}) {
			t.Errorf("%+v = %+v, want %+v", p, got, want)
		}
	}
}

// TestFirst asks about the time at which it is late.
func TestFirst(t *testing.T) {
	l := row(10, 1000, 0)
	mustPull(t, Codel{}, 100, l, Codel{First: 1100}, 0, true)
	mustPull(t, Codel{First: 1100}, 101, l, Codel{First: 1100}, 0, true)
	mustPull(t, Codel{First: 1100}, 1099, l, Codel{First: 1100}, 0, true)
	begun := func(now int64) Codel {
		return Codel{First: 1100, Drop: now + interval, Count: 1, Last: 1, Dropping: true}
	}
	mustPull(t, Codel{First: 1100}, 1100, l, begun(1100), 1, true)
	mustPull(t, Codel{First: 1100}, 1101, l, begun(1101), 1, true)
	mustPull(t, Codel{First: 1100}, 99999, l, begun(99999), 1, true)
	// Dropping, what is not late ends it.
	mustPull(t, Codel{First: 1100, Drop: 7, Count: 3, Last: 2, Dropping: true}, 1099, l, Codel{First: 1100, Drop: 7, Count: 3, Last: 2}, 0, true)
	mustPull(t, Codel{First: 1100, Drop: 1101, Count: 3, Dropping: true}, 1100, l, Codel{First: 1100, Drop: 1101, Count: 3, Dropping: true}, 0, true)
	mustPull(t, Codel{Drop: 7, Count: 3, Last: 2, Dropping: true}, 500, l, Codel{First: 1500, Drop: 7, Count: 3, Last: 2}, 0, true)
	// One below 0 is one.
	mustPull(t, Codel{First: -1}, 500, l, Codel{First: -1, Drop: 1500, Count: 1, Last: 1, Dropping: true}, 1, true)
}

// TestFirstOf0: now and an interval of 0 at the time 0 leave none.
func TestFirstOf0(t *testing.T) {
	p := pull{Codel{}, 0, 0, 0, 9000, row(3, 1000, 0)}
	if got := ask(t, p); got != (answer{Codel{}, 0, true}) {
		t.Errorf("%+v = %+v", p, got)
	}
	p.now = 1
	if got := ask(t, p); got != (answer{Codel{First: 1}, 0, true}) {
		t.Errorf("%+v = %+v", p, got)
	}
}

// TestTargetCut asks with targets at both ends and beyond.
func TestTargetCut(t *testing.T) {
	for wants, targets := range map[int64][]int64{
		0:       {0, -1, -2, -target, -1 << 30, -1 << 32, -1<<32 + 5, math.MinInt64, math.MinInt64 + 5},
		1:       {1},
		1 << 30: {1 << 30, 1<<30 + 1, 1<<30 + 2, 1 << 31, 1 << 32, 1<<32 + 5, api.MaxTime, math.MaxInt64 - 1, math.MaxInt64},
	} {
		for _, x := range targets {
			for _, waited := range []int64{-1, 0, 1, 1<<30 - 1, 1 << 30, 1<<30 + 1} {
				p := pull{Codel{}, 1<<40 + waited, x, interval, 9000, row(1, 1000, 1<<40)}
				want := int64(0)
				if waited >= wants {
					want = p.now + interval
				}
				if got := ask(t, p); got != (answer{Codel{First: want}, 0, true}) {
					t.Errorf("%+v = %+v, want a First of %d", p, got, want)
				}
			}
		}
	}
	p := pull{Codel{}, 1<<40 + 1<<30 - 1, 1<<30 - 1, interval, 9000, row(1, 1000, 1<<40)}
	if got := ask(t, p); got != (answer{Codel{First: p.now + interval}, 0, true}) {
		t.Errorf("%+v = %+v", p, got)
	}
}

// TestIntervalCut asks with intervals at both ends and beyond: of First, of Drop, of what is remembered.
func TestIntervalCut(t *testing.T) {
	l := row(10, 1000, 0)
	for is, intervals := range map[int64][]int64{
		0:         {0, -1, -2, -interval, -1 << 30, -1 << 32, -1<<32 + 5, math.MinInt64, math.MinInt64 + 5},
		1:         {1},
		1<<30 - 1: {1<<30 - 1},
		1 << 30:   {1 << 30, 1<<30 + 1, 1<<30 + 2, 1 << 31, 1 << 32, 1<<32 + 5, 1 << 60, api.MaxTime, math.MaxInt64 - 1, math.MaxInt64},
	} {
		for _, x := range intervals {
			now := int64(1 << 40)
			for _, y := range []struct{ c, want Codel }{
				{Codel{}, Codel{First: now + is}},
				{Codel{First: 5}, Codel{First: 5, Drop: now + is, Count: 1, Last: 1, Dropping: true}},
				{Codel{First: 5, Count: 9, Drop: now - 16*is + 1}, Codel{First: 5, Drop: inv.Next(now, is, 9), Count: 9, Last: 9, Dropping: true}},
				{Codel{First: 5, Count: 9, Drop: now - 16*is}, Codel{First: 5, Drop: now + is, Count: 1, Last: 1, Dropping: true}},
			} {
				n := 0
				if y.c.First > 0 {
					n = 1
				}
				p := pull{y.c, now, target, x, all(l), l}
				if got := ask(t, p); got != (answer{y.want, n, true}) {
					t.Errorf("%+v = %+v, want %+v", p, got, y.want)
				}
			}
		}
	}
	// An interval of 0 brings Drop no further: all is dropped but what has few bytes behind it.
	for _, x := range []int64{0, -1, math.MinInt64} {
		p := pull{Codel{First: 5, Drop: 7, Dropping: true}, 500, target, x, all(l), l}
		if got := ask(t, p); got != (answer{Codel{Drop: 7, Count: 8}, 8, true}) {
			t.Errorf("%+v = %+v", p, got)
		}
	}
}

// P11.1: it begins.

func TestBegin(t *testing.T) {
	begun := Codel{Drop: 2200, Count: 1, Last: 1, Dropping: true}
	with := func(first int64) Codel {
		c := begun
		c.First = first
		return c
	}
	// Whatever is behind the one that is dropped is looked at, and taken: late, not yet, with few bytes behind it, none.
	mustPull(t, Codel{First: 1100}, 1200, row(10, 1000, 0), with(1100), 1, true)
	mustPull(t, Codel{First: 1100}, 1200, append(row(1, 1000, 0), row(9, 1000, 1100)...), with(1100), 1, true)
	mustPull(t, Codel{First: 1100}, 1200, append(row(1, 1000, 0), row(9, 1000, 1101)...), begun, 1, true)
	mustPull(t, Codel{First: 1100}, 1200, row(3, 1000, 0), begun, 1, true)
	mustPull(t, Codel{First: 1100}, 1200, row(3, 1514, 0), begun, 1, true)
	mustPull(t, Codel{First: 1100}, 1200, row(3, 1515, 0), with(1100), 1, true)
	// One alone has bytes behind it only if more are told.
	p := pull{Codel{First: 1100}, 1200, target, interval, 2515, row(1, 1000, 0)}
	if got := ask(t, p); got != (answer{begun, 1, false}) {
		t.Errorf("%+v = %+v", p, got)
	}
	p.bytes = 2514
	if got := ask(t, p); got != (answer{Codel{}, 0, true}) {
		t.Errorf("%+v = %+v", p, got)
	}
	// Not dropping, Drop holds nothing up.
	mustPull(t, Codel{First: 1100, Drop: 1 << 40}, 1200, row(10, 1000, 0), with(1100), 1, true)
}

// mustBegin fails unless dropping begins at 20000 with that count, where Drop was, and Count and Last were.
func mustBegin(t *testing.T, drop int64, count, last, want uint32) {
	t.Helper()
	c := Codel{First: 1100, Drop: drop, Count: count, Last: last}
	behind := Codel{First: 1100, Drop: inv.Next(20000, interval, want), Count: want, Last: want, Dropping: true}
	mustPull(t, c, 20000, row(10, 1000, 0), behind, 1, true)
}

// TestRemembered asks for Count less Last about 1, and where it goes round.
func TestRemembered(t *testing.T) {
	for _, last := range []uint32{0, 1, 2, 7, 1 << 16, 1 << 31, lastCount - 2, lastCount - 1, lastCount} {
		for _, since := range []uint32{0, 1, 2, 3, 100, 1<<31 - 1, 1 << 31, 1<<31 + 1, lastCount - 1, lastCount} {
			mustBegin(t, 19000, last+since, last, max(since, 1))
		}
	}
	mustBegin(t, 19000, 5, 5, 1)
	mustBegin(t, 19000, 6, 5, 1)
	mustBegin(t, 19000, 7, 5, 2)
	mustBegin(t, 19000, 8, 5, 3)
	mustBegin(t, 19000, 4, 5, lastCount)
	mustBegin(t, 19000, 3, 5, lastCount-1)
	mustBegin(t, 19000, 0, lastCount, 1)
	mustBegin(t, 19000, 1, lastCount, 2)
}

// TestSixteen asks about sixteen intervals behind Drop.
func TestSixteen(t *testing.T) {
	for drop, want := range map[int64]uint32{
		4000: 1, 3999: 1, 0: 1, -1: 1, -1 << 40: 1, math.MinInt64 + 20000: 1, math.MinInt64 + 19999: 1, math.MinInt64: 1,
		4001: 9, 4002: 9, 19999: 9, 20000: 9, 20001: 9, 1 << 40: 9, math.MaxInt64: 9,
	} {
		mustBegin(t, drop, 10, 1, want)
		mustBegin(t, drop, 2, 1, 1)
	}
}

// P11.1: it goes on.

// TestDrop asks about the time at which the next one is dropped.
func TestDrop(t *testing.T) {
	l := row(10, 1000, 0)
	c := Codel{First: 1100, Drop: 2100, Count: 1, Last: 1, Dropping: true}
	mustPull(t, c, 1100, l, c, 0, true)
	mustPull(t, c, 2099, l, c, 0, true)
	one := Codel{First: 1100, Drop: 2807, Count: 2, Last: 1, Dropping: true}
	mustPull(t, c, 2100, l, one, 1, true)
	mustPull(t, c, 2806, l, one, 1, true)
	two := Codel{First: 1100, Drop: 3384, Count: 3, Last: 1, Dropping: true}
	mustPull(t, c, 2807, l, two, 2, true)
	mustPull(t, c, 3383, l, two, 2, true)
	// 577 behind the one, half of an interval behind the other.
	mustPull(t, c, 3384, l, Codel{First: 1100, Drop: 3884, Count: 4, Last: 1, Dropping: true}, 3, true)
	// The last two have few bytes behind them.
	mustPull(t, c, 99999, l, Codel{Drop: c.Drop + 707 + 577 + 500 + 447 + 408 + 377 + 353, Count: 9, Last: 1}, 8, true)
}

// TestGoOnEnds has behind those that are dropped one that is not late.
func TestGoOnEnds(t *testing.T) {
	c := Codel{First: 1100, Drop: 2100, Count: 1, Last: 1, Dropping: true}
	ended := Codel{Drop: 2100, Count: 2, Last: 1}
	mustPull(t, c, 2900, append(row(1, 1000, 0), row(9, 1000, 2801)...), ended, 1, true)
	mustPull(t, c, 2900, append(row(1, 1000, 0), row(9, 1000, 2800)...), Codel{First: 1100, Drop: 3384, Count: 3, Last: 1, Dropping: true}, 2, true)
	mustPull(t, c, 2900, append(row(2, 1000, 0), row(8, 1000, 2801)...), Codel{Drop: 2807, Count: 3, Last: 1}, 2, true)
	mustPull(t, c, 2100, row(3, 1000, 0), ended, 1, true)
	mustPull(t, c, 2100, row(3, 1514, 0), ended, 1, true)
	mustPull(t, c, 2100, row(2, 1000, 0), Codel{Drop: 2100, Count: 1, Last: 1}, 0, true)
	// None, with bytes told of that are not there.
	for n := range 4 {
		p := pull{c, 99999, target, interval, 1 << 20, row(n+1, 1000, 0)}
		want := Codel{Drop: []int64{2100, 2807, 3384, 3884}[n], Count: uint32(n + 2), Last: 1}
		if got := ask(t, p); got != (answer{want, n + 1, false}) {
			t.Errorf("%+v = %+v, want %+v", p, got, want)
		}
	}
}

// TestLastCount: the greatest Count stays.
func TestLastCount(t *testing.T) {
	c := Codel{First: 1100, Drop: 2100, Count: lastCount - 1, Last: 1, Dropping: true}
	want := Codel{First: 1100, Drop: 2100, Count: lastCount, Last: 1, Dropping: true}
	// An interval over the root of the greatest count is less than a tick.
	mustPull(t, c, 2100, row(10, 1000, 0), Codel{Drop: 2100, Count: lastCount, Last: 1}, 8, true)
	p := pull{c, 2100, target, 65536, 10000, row(10, 1000, 0)}
	want.Drop = 2101
	if got := ask(t, p); got != (answer{want, 1, true}) {
		t.Errorf("%+v = %+v, want %+v", p, got, want)
	}
	p.c.Count, p.now, want.Drop = lastCount, 2103, 2104
	if got := ask(t, p); got != (answer{want, 4, true}) {
		t.Errorf("%+v = %+v, want %+v", p, got, want)
	}
}

// TestBeyond has a Drop that no time reaches, and times beyond both ends.
func TestBeyond(t *testing.T) {
	l := row(10, 1000, 0)
	c := Codel{First: 1100, Drop: api.MaxTime + 1, Count: 1, Last: 1, Dropping: true}
	mustPull(t, c, api.MaxTime, l, c, 0, true)
	mustPull(t, Codel{First: 1100}, api.MaxTime, l, Codel{First: 1100, Drop: api.MaxTime + interval, Count: 1, Last: 1, Dropping: true}, 1, true)
	mustPull(t, Codel{}, api.MaxTime, l, Codel{First: api.MaxTime + interval}, 0, true)
	mustPull(t, Codel{}, math.MaxInt64-interval, l, Codel{First: math.MaxInt64}, 0, true)
	mustPull(t, Codel{}, math.MaxInt64, l, Codel{First: math.MaxInt64}, 0, true)
	mustPull(t, Codel{First: -1}, math.MinInt64, l, Codel{}, 0, true)
	mustPull(t, Codel{First: -1}, -5, row(10, 1000, -1), Codel{}, 0, true)
	mustPull(t, Codel{}, -5000, row(10, 1000, -5100), Codel{First: -4000}, 0, true)
	mustPull(t, Codel{}, math.MinInt64+target, row(10, 1000, math.MinInt64), Codel{First: math.MinInt64 + target + interval}, 0, true)
	mustPull(t, Codel{First: -9, Count: 5, Drop: -16005}, -5, row(10, 1000, -500), Codel{First: -9, Drop: interval, Count: 1, Last: 1, Dropping: true}, 1, true)
	mustPull(t, Codel{First: -9, Count: 5, Drop: -16004}, -5, row(10, 1000, -500), Codel{First: -9, Drop: inv.Next(0, interval, 5), Count: 5, Last: 5, Dropping: true}, 1, true)
}

// P11.1: pulled again and again.

// belt is a queue to which packets of 1000 bytes come, and from which one is taken each 1000 ticks.
type belt struct {
	codel Codel
	items []api.Item
}

// run lets packets come each so many ticks till one time, pulls till another, and tells when one was dropped.
func (b *belt) run(t *testing.T, gap, from, tillIn, till int64) []int64 {
	t.Helper()
	var dropped []int64
	for now := from; now <= till; now++ {
		if now%gap == 0 && now <= tillIn {
			b.items = append(b.items, api.Item{At: now, Len: 1000})
		}
		if now%1000 != 0 || now == 0 {
			continue
		}
		a := check(t, pull{b.codel, now, 5000, 100000, all(b.items), b.items})
		for range a.n {
			dropped = append(dropped, now/1000)
		}
		b.codel, b.items = a.c, b.items[a.n:]
		if a.is {
			b.items = b.items[1:]
		}
	}
	return dropped
}

// mustRun fails unless a belt dropped at those thousands of ticks, and is left so.
func mustRun(t *testing.T, b *belt, dropped, want []int64, c Codel, left int) {
	t.Helper()
	if !slices.Equal(dropped, want) {
		t.Errorf("dropped at %v, want %v", dropped, want)
	}
	if b.codel != c || len(b.items) != left {
		t.Errorf("%+v, %d left, want %+v, %d", b.codel, len(b.items), c, left)
	}
}

// TestGrows has a queue to which twice as much comes as goes: it drops more and more often.
func TestGrows(t *testing.T) {
	b := &belt{}
	dropped := b.run(t, 500, 0, 1<<40, 800000)
	want := []int64{109, 209, 280, 338, 388, 433, 473, 511, 547, 580, 612, 642, 671, 698, 725, 751, 776, 800}
	mustRun(t, b, dropped, want, Codel{First: 109000, Drop: 823217, Count: 18, Last: 1, Dropping: true}, 783)
}

// TestDrains has a queue to which a little more comes than goes, and then nothing: it ends.
func TestDrains(t *testing.T) {
	b := &belt{}
	dropped := b.run(t, 900, 0, 600000, 1200000)
	want := []int64{141, 241, 312, 370, 420, 465, 505, 543, 579, 612, 644}
	mustRun(t, b, dropped, want, Codel{Drop: 673247, Count: 11, Last: 1}, 0)
}

// TestKeepsUp has queues to which less comes than goes, and as much: they never drop.
func TestKeepsUp(t *testing.T) {
	less, as := &belt{}, &belt{}
	mustRun(t, less, less.run(t, 1500, 0, 1<<40, 900000), nil, Codel{}, 0)
	mustRun(t, as, as.run(t, 1000, 0, 1<<40, 900000), nil, Codel{}, 1)
}

// TestComesAgain has a queue that stands, ends, and stands again soon, and once more late.
func TestComesAgain(t *testing.T) {
	b := &belt{}
	b.run(t, 900, 0, 600000, 900000)
	ended := b.codel
	if ended.Dropping || ended.Count != 11 {
		t.Fatalf("%+v", ended)
	}
	soon := *b
	soon.run(t, 500, 900001, 1<<40, 1100000)
	if c := soon.codel; c.Last != 10 || !c.Dropping {
		t.Errorf("soon: %+v", c)
	}
	late := *b
	late.run(t, 500, 2200001, 1<<40, 2450000)
	if c := late.codel; c.Last != 1 || !c.Dropping {
		t.Errorf("late: %+v", c)
	}
}

// TestModel asks all ends of everything, one with each other.
func TestModel(t *testing.T) {
	lists := [][]api.Item{nil, row(1, 1000, 0), row(3, 1000, 0), row(4, 1000, 90000), row(12, 1500, 1), row(5, 1000, math.MinInt64), append(row(3, 900, 5), row(9, 900, 1<<50)...)}
	for _, drop := range []int64{math.MinInt64, -1, 0, 90000, 100000, 100001, math.MaxInt64} {
		for _, first := range []int64{math.MinInt64, -1, 0, 1, 100000, 100001, math.MaxInt64} {
			for _, counts := range [][2]uint32{{0, 0}, {1, 1}, {5, 2}, {2, 5}, {lastCount, 0}, {lastCount - 2, lastCount}} {
				for _, dropping := range []bool{false, true} {
					c := Codel{first, drop, counts[0], counts[1], dropping}
					for _, l := range lists {
						ends(t, c, l)
					}
				}
			}
		}
	}
}

// ends holds the pulls of one state from one list against the model.
func ends(t *testing.T, c Codel, l []api.Item) {
	t.Helper()
	for _, now := range []int64{math.MinInt64, -1, 0, 100000, api.MaxTime, math.MaxInt64} {
		for _, times := range [][2]int64{{0, 0}, {100, 1000}, {-5, 1 << 40}, {1 << 40, -5}, {10000, 1 << 30}, {5000, 6250}} {
			for _, bytes := range []int{math.MinInt, 0, 2514, all(l), math.MaxInt} {
				check(t, pull{c, now, times[0], times[1], bytes, l})
			}
		}
	}
}

// TestMixed pulls from queues that grow and shrink by a rule that comes by everywhere.
func TestMixed(t *testing.T) {
	turn := uint64(0)
	next := func(below uint64) int64 {
		turn += 0x9e3779b97f4a7c15
		mixed := turn ^ turn>>29
		mixed *= 0xbf58476d1ce4e5b9
		return int64((mixed ^ mixed>>32) % below)
	}
	for range 300 {
		goal, long, now, c := next(300), next(3000), int64(0), Codel{}
		var l []api.Item
		for range 300 {
			now += next(200)
			for range next(4) {
				l = append(l, api.Item{At: now, Len: int(next(1600)) - 50})
			}
			bytes := 0
			for _, x := range l {
				bytes += max(x.Len, 0)
			}
			a := check(t, pull{c, now, goal, long, bytes, l})
			c, l = a.c, l[a.n:]
			if a.is {
				l = l[1:]
			}
		}
	}
}

// The chapter's Ways.

// TestValue asks one state twice: a Codel is a value, and Pull is its type's.
func TestValue(t *testing.T) {
	c := Codel{First: 1100, Drop: 2100, Count: 1, Last: 1, Dropping: true}
	asked, l := c, row(10, 1000, 0)
	first, n, is := Codel.Pull(c, 3000, target, interval, all(l), l...)
	if again, m, too := Codel.Pull(c, 3000, target, interval, all(l), l...); again != first || m != n || too != is {
		t.Errorf("%+v, %d, %v, and asked again %+v, %d, %v", first, n, is, again, m, too)
	}
	if c != asked || first == c || n != 2 || !is {
		t.Errorf("%+v, and %+v, %d, %v of it", c, first, n, is)
	}
	var none Codel
	if c, n, is := none.Pull(1, 2, 3, 0); c != none || n != 0 || is {
		t.Errorf("%+v, %d, %v", c, n, is)
	}
}

// FuzzPull holds Pull against what the chapter words.
func FuzzPull(f *testing.F) {
	f.Add(int64(0), int64(0), uint32(0), uint32(0), false, int64(0), int64(0), int64(0), 0, 0, 0, int64(0))
	f.Add(int64(1100), int64(2100), uint32(1), uint32(1), true, int64(3000), int64(100), int64(1000), 10000, 10, 1000, int64(0))
	f.Add(int64(1), int64(math.MinInt64), uint32(0), uint32(5), false, int64(math.MaxInt64), int64(-1), int64(1<<30), math.MaxInt, 3, math.MinInt, int64(math.MinInt64))
	f.Fuzz(func(t *testing.T, first, drop int64, count, last uint32, dropping bool, now, goal, long int64, bytes, n, length int, at int64) {
		var l []api.Item
		for k := range min(max(n, 0), 100) {
			l = append(l, api.Item{At: at + int64(k), Len: length})
		}
		check(t, pull{Codel{first, drop, count, last, dropping}, now, goal, long, bytes, l})
	})
}
