package build

import (
	"math"
	"slices"
	"testing"

	"muezzin/api"
	"muezzin/rate"
)

// The chapter's bounds, as numbers of their own.
const (
	mostFrames = 64
	longest    = 4095
	mostBytes  = 65535
	mostTicks  = 54840
)

// wide is limits that bind nothing beside the chapter's own bounds.
func wide() Limits { return Limits{Count: math.MaxInt, Bytes: math.MaxInt, Ticks: math.MaxInt64} }

// count, size and ticks are limits that bind by one of the three alone.
func count(n int) Limits   { m := wide(); m.Count = n; return m }
func size(n int) Limits    { m := wide(); m.Bytes = n; return m }
func ticks(n int64) Limits { m := wide(); m.Ticks = n; return m }

// legacy, ht, vht and he are rates of one mode: MCS, Streams, Width, GI.
func legacy(mcs int) api.Rate { return api.Rate{Mode: api.Legacy, MCS: mcs, Streams: 1, Width: 20} }
func ht(mcs, streams, width, gi int) api.Rate {
	return api.Rate{Mode: api.HT, MCS: mcs, Streams: streams, Width: width, GI: gi}
}
func vht(mcs, streams, width, gi int) api.Rate {
	return api.Rate{Mode: api.VHT, MCS: mcs, Streams: streams, Width: width, GI: gi}
}
func he(mcs, streams, width, gi int) api.Rate {
	return api.Rate{Mode: api.HE, MCS: mcs, Streams: streams, Width: width, GI: gi}
}

// Of the slowest rate 4095 bytes take just MaxAir; at the fastest one all bytes that may go together take far less.
func slowest() api.Rate { return legacy(0) }
func fastest() api.Rate { return he(11, 8, 160, 2) }

// someRates is rates of each mode, slow ones and fast ones.
func someRates() []api.Rate {
	return []api.Rate{
		slowest(), legacy(4), legacy(7),
		ht(0, 1, 20, 0), ht(7, 1, 20, 0), ht(3, 2, 40, 1), ht(7, 4, 40, 1),
		vht(0, 1, 20, 0), vht(4, 2, 80, 1), vht(9, 8, 160, 1),
		he(0, 1, 20, 0), he(5, 2, 40, 1), fastest(),
	}
}

// everyRate is all rates that may be.
func everyRate() []api.Rate {
	return slices.Concat(rate.All(api.Legacy), rate.All(api.HT), rate.All(api.VHT), rate.All(api.HE))
}

// noRates is rates that may not be, each for one reason.
func noRates() []api.Rate {
	return []api.Rate{
		{}, {Mode: -1, Streams: 1, Width: 20}, {Mode: 5, Streams: 1, Width: 20}, {Streams: 1, Width: 20},
		legacy(-1), legacy(8),
		{Mode: api.Legacy, Width: 20}, {Mode: api.Legacy, Streams: 2, Width: 20},
		{Mode: api.Legacy, Streams: 1, Width: 40}, {Mode: api.Legacy, Streams: 1, Width: 20, GI: 1},
		ht(-1, 1, 20, 0), ht(8, 1, 20, 0), ht(0, 5, 20, 0), ht(0, 1, 80, 0), ht(0, 1, 20, 2), ht(0, 0, 20, 0), ht(0, 1, 0, 0),
		vht(-1, 1, 20, 0), vht(10, 1, 20, 0), vht(0, 9, 20, 0), vht(0, 1, 320, 0), vht(0, 1, 20, 2), vht(0, 1, 20, -1),
		he(-1, 1, 20, 0), he(12, 1, 20, 0), he(0, 9, 20, 0), he(0, 0, 20, 0), he(0, 1, 30, 0), he(0, 1, 20, 3),
		{Mode: math.MinInt, MCS: math.MaxInt, Streams: math.MaxInt, Width: math.MinInt, GI: math.MaxInt},
	}
}

// noLengths is lengths that may not be, those among them of which the low bits are as of some that may.
func noLengths() []int {
	l := []int{0, -1, -2, -100, longest + 1, longest + 2, 1 << 14, mostBytes, 1 << 16, 1 << 20}
	l = append(l, math.MinInt, math.MinInt+1, math.MaxInt, math.MaxInt-1, -longest)
	for _, n := range []int{1, 100, longest} {
		for _, bits := range []uint{8, 12, 16, 31, 32, 63} {
			far := int64(n) + int64(1)<<bits
			if low := int(far); low < 1 || low > longest {
				l = append(l, low)
			}
		}
	}
	return l
}

// row is n lengths that are all the same.
func row(n, long int) []int { return slices.Repeat([]int{long}, n) }

// join is these lists as one.
func join(l ...[]int) []int { return slices.Concat(l...) }

// short is a list as a message tells it: not all of it, if it is long.
func short(lens []int) []int { return lens[:min(len(lens), 20)] }

// mustFit fails unless these fit.
func mustFit(t *testing.T, r api.Rate, m Limits, lens ...int) {
	t.Helper()
	if !Fits(r, m, lens...) {
		t.Errorf("Fits(%v, %v, %d: %v) = false", r, m, len(lens), short(lens))
	}
}

// mustNotFit fails if these fit.
func mustNotFit(t *testing.T, r api.Rate, m Limits, lens ...int) {
	t.Helper()
	if Fits(r, m, lens...) {
		t.Errorf("Fits(%v, %v, %d: %v) = true", r, m, len(lens), short(lens))
	}
}

// mustAnswer fails unless Choose answers so.
func mustAnswer(t *testing.T, r api.Rate, m Limits, n int, is bool, lens []int) {
	t.Helper()
	if k, ok := Choose(r, m, lens...); k != n || ok != is {
		t.Errorf("Choose(%v, %v, %d: %v) = %d, %t, want %d, %t", r, m, len(lens), short(lens), k, ok, n, is)
	}
}

// mustFitNone fails if one of the beginnings of the list fits.
func mustFitNone(t *testing.T, r api.Rate, m Limits, lens []int) {
	t.Helper()
	for k := range len(lens) + 1 {
		mustNotFit(t, r, m, lens[:k]...)
	}
}

// mustGo fails unless the first n go together, and of all beginnings of the list just those up to there fit.
func mustGo(t *testing.T, r api.Rate, m Limits, n int, lens ...int) {
	t.Helper()
	mustAnswer(t, r, m, n, true, lens)
	mustNotFit(t, r, m)
	for k := 1; k <= len(lens); k++ {
		if k <= n {
			mustFit(t, r, m, lens[:k]...)
		} else {
			mustNotFit(t, r, m, lens[:k]...)
		}
	}
}

// mustGoAlone fails unless nothing fits, and the first one goes alone.
func mustGoAlone(t *testing.T, r api.Rate, m Limits, lens ...int) {
	t.Helper()
	mustAnswer(t, r, m, 1, false, lens)
	mustFitNone(t, r, m, lens)
}

// mustNotGo fails unless nothing fits, and nothing goes.
func mustNotGo(t *testing.T, r api.Rate, m Limits, lens ...int) {
	t.Helper()
	mustAnswer(t, r, m, 0, false, lens)
	mustFitNone(t, r, m, lens)
}

// P17.1: what is ordinary.

// TestExample is the chapter's.
func TestExample(t *testing.T) {
	if n, is := Choose(ht(7, 1, 20, 0), wide()); n != 0 || is {
		t.Errorf("Choose of none = %d, %t", n, is)
	}
}

// TestOrdinary: what an access point may ask, at a rate of each mode, with numbers worked out from chapters 7 to 9.
func TestOrdinary(t *testing.T) {
	m := Limits{Count: 64, Bytes: 65535, Ticks: mostTicks}
	for _, x := range []struct {
		r    api.Rate
		n    int
		lens []int
	}{
		// 216 bits a symbol: 1366 symbols have 36879 bytes; each of 1526 has 1532.
		{legacy(7), 24, row(40, 1526)},
		// 260 bits: 1362 symbols have 44262 bytes.
		{ht(7, 1, 20, 0), 28, row(40, 1526)},
		// 540 bits, of 36 ticks: what may go in all is reached ahead of the time.
		{ht(7, 1, 40, 1), 42, row(50, 1526)},
		// 26 bits: 1361 symbols (one less than HT has, by the preamble) have 4420 bytes.
		{vht(0, 1, 20, 0), 2, row(40, 1526)},
		{vht(9, 8, 160, 1), 42, row(50, 1526)},
		// 117 bits, of 160 ticks: 340 symbols have 4969 bytes.
		{he(0, 1, 20, 0), 3, row(40, 1526)},
		{fastest(), 42, row(50, 1526)},
		{fastest(), 64, row(70, 26)},
		{ht(7, 1, 20, 0), 5, []int{100, 1526, 26, 700, 41}},
		{legacy(0), 1, []int{1526}},
	} {
		mustGo(t, x.r, m, x.n, x.lens...)
		mustGo(t, x.r, wide(), x.n, x.lens...)
	}
}

// TestEachLimitBinds: at a rate of each mode, the same frames by each of the limits, one after the other.
func TestEachLimitBinds(t *testing.T) {
	lens := row(5, 101) // 105 bytes each, 108 where one is behind
	for _, x := range []struct {
		r    api.Rate
		time [5]int64 // of 105, 213, 321, 429, 537 bytes, worked out from chapters 8 and 9
	}{
		{legacy(0), [5]int64{1640, 3080, 4520, 5960, 7400}},
		{legacy(7), [5]int64{360, 520, 680, 840, 1000}},
		{ht(7, 1, 20, 0), [5]int64{520, 640, 760, 920, 1040}},
		{ht(0, 1, 20, 1), [5]int64{1584, 2772, 3960, 5148, 6372}},
		{vht(0, 1, 20, 0), [5]int64{1760, 3080, 4400, 5720, 7080}},
		{he(0, 1, 20, 0), [5]int64{1720, 2840, 4120, 5240, 6360}},
		{he(0, 1, 20, 2), [5]int64{1528, 2480, 3568, 4520, 5472}},
	} {
		for n := 1; n <= 5; n++ {
			bytes := 108*n - 3
			mustGo(t, x.r, count(n), n, lens...)
			mustGo(t, x.r, size(bytes), n, lens...)
			mustGo(t, x.r, ticks(x.time[n-1]), n, lens...)
			mustGo(t, x.r, Limits{n, bytes, x.time[n-1]}, n, lens...)
			if n == 1 {
				mustGoAlone(t, x.r, size(bytes-1), lens...)
				mustGoAlone(t, x.r, ticks(x.time[0]-1), lens...)
				continue
			}
			// Each limit binds, though the others let more go.
			mustGo(t, x.r, Limits{n - 1, bytes, x.time[n-1]}, n-1, lens...)
			mustGo(t, x.r, Limits{n, bytes - 1, x.time[n-1]}, n-1, lens...)
			mustGo(t, x.r, Limits{n, bytes, x.time[n-1] - 1}, n-1, lens...)
		}
	}
}

// TestEachRate: at each rate that may be some frames go together, and at none a count of none does.
func TestEachRate(t *testing.T) {
	for _, r := range everyRate() {
		mustGo(t, r, wide(), 3, 100, 1, 1526)
		mustGo(t, r, count(2), 2, 100, 1, 1526)
		mustGoAlone(t, r, count(0), 100, 1, 1526)
	}
}

// P17.1: none.

func TestNone(t *testing.T) {
	for _, r := range slices.Concat(someRates(), noRates()) {
		for _, m := range []Limits{wide(), {}, {-1, -1, -1}, {64, 65535, mostTicks}, count(0), size(0), ticks(0)} {
			for _, lens := range [][]int{nil, {}, row(2, 100)[:0]} {
				mustNotGo(t, r, m, lens...)
			}
		}
	}
}

// P17.1: a length.

// TestLengthAtItsEdges: as the first one, in the midst, and as the last one.
func TestLengthAtItsEdges(t *testing.T) {
	for _, r := range someRates() {
		for _, n := range []int{1, 2, 3, 4, 5, longest - 1, longest} {
			if r == slowest() && n >= longest-1 {
				continue // it takes too long, as TestSlow has it
			}
			mustGo(t, r, wide(), 1, n)
			mustFit(t, r, wide(), n)
		}
	}
	for _, r := range []api.Rate{legacy(7), ht(7, 1, 20, 0), vht(4, 2, 80, 1), fastest()} {
		for _, n := range []int{1, longest} {
			mustGo(t, r, wide(), 3, n, 100, 200)
			mustGo(t, r, wide(), 3, 100, n, 200)
			mustGo(t, r, wide(), 3, 100, 200, n)
			mustGo(t, r, wide(), 3, n, n, n)
		}
	}
}

// TestWrongLength: nothing goes behind one that may not be, and nothing at all if it is the first.
func TestWrongLength(t *testing.T) {
	for _, r := range []api.Rate{slowest(), ht(7, 1, 20, 0), vht(4, 2, 80, 1), fastest()} {
		for _, n := range noLengths() {
			mustNotGo(t, r, wide(), n)
			mustNotGo(t, r, wide(), n, 100, 200)
			mustNotGo(t, r, wide(), n, n)
			mustNotGo(t, r, Limits{}, n, 100)
			mustGo(t, r, wide(), 1, 100, n, 200)
			mustGo(t, r, wide(), 2, 100, 200, n)
			mustGo(t, r, wide(), 2, 100, 200, n, 100, 200)
			mustGo(t, r, wide(), 2, 100, 200, n, n)
		}
	}
}

// TestWrongLengthAtEachPlace: in a list as long as may be.
func TestWrongLengthAtEachPlace(t *testing.T) {
	for _, n := range []int{-1, 0, longest + 1} {
		for at := 1; at < mostFrames; at++ {
			lens := row(mostFrames, 50)
			lens[at] = n
			mustGo(t, fastest(), wide(), at, lens...)
		}
	}
}

// TestWrongLengthsThatCancelOut: one that counts as nothing, or as less, makes no room for another.
func TestWrongLengthsThatCancelOut(t *testing.T) {
	for _, lens := range [][]int{
		{longest + 1, -100}, {math.MaxInt, math.MinInt}, {math.MaxInt, math.MaxInt, 2}, {math.MinInt, math.MinInt},
	} {
		mustNotGo(t, fastest(), wide(), lens...)
		mustGo(t, fastest(), wide(), 1, join([]int{100}, lens)...)
	}
}

// TestWrongLengthBehindTheLast: what goes doesn't hang on what comes behind it, be it what it may.
func TestWrongLengthBehindTheLast(t *testing.T) {
	for _, n := range []int{-1, 0, longest + 1, math.MinInt, math.MaxInt} {
		mustGo(t, fastest(), count(3), 3, 100, 100, 100, n)
		mustGo(t, fastest(), count(3), 3, 100, 100, 100, 100, n)
		mustGo(t, fastest(), wide(), mostFrames, join(row(mostFrames, 50), []int{n})...)
	}
}

// P17.1: Count.

func TestCountAtItsEdges(t *testing.T) {
	for _, r := range []api.Rate{legacy(7), ht(7, 1, 20, 0), vht(9, 8, 160, 1), fastest()} {
		for _, n := range []int{0, -1, -2, -64, math.MinInt, math.MinInt + 1} {
			mustGoAlone(t, r, count(n), 100)
			mustGoAlone(t, r, count(n), row(70, 50)...)
		}
		mustGo(t, r, count(1), 1, 100)
		mustGo(t, r, count(1), 1, 100, 1)
		for _, n := range []int{2, 3, 32, mostFrames - 1, mostFrames} {
			mustGo(t, r, count(n), n-1, row(n-1, 50)...)
			mustGo(t, r, count(n), n, row(n, 50)...)
			mustGo(t, r, count(n), n, row(n+1, 50)...)
			mustGo(t, r, count(n), n, row(100, 50)...)
		}
		for _, n := range []int{mostFrames, mostFrames + 1, mostFrames + 2, 100, 1 << 20, math.MaxInt - 1, math.MaxInt} {
			mustGo(t, r, count(n), mostFrames-1, row(mostFrames-1, 50)...)
			mustGo(t, r, count(n), mostFrames, row(mostFrames, 50)...)
			mustGo(t, r, count(n), mostFrames, row(mostFrames+1, 50)...)
			mustGo(t, r, count(n), mostFrames, row(mostFrames+2, 50)...)
			mustGo(t, r, count(n), mostFrames, row(200, 50)...)
		}
	}
}

// TestEachCount: each count that may be, of lists of each length around it.
func TestEachCount(t *testing.T) {
	for n := 1; n <= mostFrames+3; n++ {
		for long := max(n-2, 1); long <= n+2; long++ {
			mustGo(t, fastest(), count(n), min(n, long, mostFrames), row(long, 100)...)
		}
	}
}

// TestVeryMany: a list that is far longer than anything that goes together.
func TestVeryMany(t *testing.T) {
	lens := row(1<<20, 100)
	mustAnswer(t, fastest(), wide(), mostFrames, true, lens)
	mustNotFit(t, fastest(), wide(), lens...)
	lens[0] = 0
	mustAnswer(t, fastest(), wide(), 0, false, lens)
	lens[0], lens[1] = longest, 0
	mustAnswer(t, fastest(), wide(), 1, true, lens)
	mustAnswer(t, slowest(), wide(), 1, false, lens)
}

// P17.1: Bytes.

func TestBytesAtTheirEdges(t *testing.T) {
	for _, r := range someRates() {
		for _, n := range []int{0, -1, -2, -65535, math.MinInt, math.MinInt + 1} {
			mustGoAlone(t, r, size(n), 1)
			mustGoAlone(t, r, size(n), 100, 50)
		}
		// A frame of one byte has a delimiter ahead of it, and nothing behind.
		for n := 1; n < 5; n++ {
			mustGoAlone(t, r, size(n), 1, 1)
		}
		mustGo(t, r, size(5), 1, 1, 1)
		// What goes behind it begins at a multiple of 4.
		mustGo(t, r, size(12), 1, 1, 1)
		mustGo(t, r, size(13), 2, 1, 1)
	}
}

// TestBytesOfEachRest: of lengths of each rest of 4, what goes together and one byte less.
func TestBytesOfEachRest(t *testing.T) {
	for _, x := range []struct {
		lens []int
		all  []int
	}{
		{[]int{100, 100, 100}, []int{104, 208, 312}},
		{[]int{101, 101, 101}, []int{105, 213, 321}},
		{[]int{102, 102, 102}, []int{106, 214, 322}},
		{[]int{103, 103, 103}, []int{107, 215, 323}},
		{[]int{97, 98, 99, 100}, []int{101, 206, 311, 416}},
		{[]int{1, 2, 3, 4, 5}, []int{5, 14, 23, 32, 41}},
		{[]int{4095, 1, 4095, 1}, []int{4099, 4105, 8207, 8213}},
	} {
		for i, n := range x.all {
			mustGo(t, fastest(), size(n), i+1, x.lens...)
			mustGo(t, fastest(), size(n+1), i+1, x.lens...)
			if i == 0 {
				mustGoAlone(t, fastest(), size(n-1), x.lens...)
			} else {
				mustGo(t, fastest(), size(n-1), i, x.lens...)
			}
		}
	}
}

// TestAsManyBytesAsMayBe: 15 frames of 4091 are 61440 bytes with what fills them up, and one more makes it 65535.
func TestAsManyBytesAsMayBe(t *testing.T) {
	lens := row(17, 4091)
	mustGo(t, fastest(), size(mostBytes), 16, lens...)
	mustGo(t, fastest(), size(mostBytes-1), 15, lens...)
	for _, n := range []int{mostBytes + 1, mostBytes + 2, 2 * mostBytes, 1 << 20, math.MaxInt - 1, math.MaxInt} {
		mustGo(t, fastest(), size(n), 16, lens[:16]...)
		mustGo(t, fastest(), size(n), 16, lens...)
		mustGo(t, fastest(), size(n), 15, row(17, 4092)...)
		mustGo(t, fastest(), size(n), 16, join(row(15, 4092), []int{4091})...)
		mustGo(t, fastest(), size(n), 16, join(row(15, 4092), []int{4091, 1})...)
		mustGo(t, fastest(), size(n), 15, row(64, longest)...)
		// 64 of 1020 are one byte too long; so a last one of 1019 is let in.
		mustGo(t, fastest(), size(n), 63, row(64, 1020)...)
		mustGo(t, fastest(), size(n), 64, join(row(63, 1020), []int{1019})...)
	}
}

// P17.1: Ticks.

func TestTicksAtTheirEdges(t *testing.T) {
	for _, r := range someRates() {
		for _, n := range []int64{0, -1, -2, -mostTicks, math.MinInt64, math.MinInt64 + 1, 1, 5, 100, 239} {
			mustGoAlone(t, r, ticks(n), 1)
			mustGoAlone(t, r, ticks(n), 100, 50)
		}
	}
}

// TestTicksOfOne: of one frame, just the time it takes, and one tick less.
func TestTicksOfOne(t *testing.T) {
	for _, x := range []struct {
		r    api.Rate
		long int
		time int64
	}{
		{legacy(0), 1, 320}, {legacy(0), 100, 1640}, {legacy(7), 1526, 2480},
		{ht(7, 1, 20, 0), 100, 520}, {ht(7, 4, 40, 1), longest, 1056},
		{vht(0, 1, 20, 0), 100, 1720}, {vht(9, 8, 160, 1), longest, 752},
		{he(0, 1, 20, 0), 100, 1720}, {he(11, 8, 160, 2), longest, 1136},
	} {
		mustGo(t, x.r, ticks(x.time), 1, x.long)
		mustGo(t, x.r, ticks(x.time+1), 1, x.long)
		mustGoAlone(t, x.r, ticks(x.time-1), x.long)
		mustGoAlone(t, x.r, ticks(x.time-1), x.long, 1)
	}
}

// TestAsMuchTimeAsMayBe: what takes just MaxAir fits, whatever Ticks has beyond it, and a symbol more does not.
func TestAsMuchTimeAsMayBe(t *testing.T) {
	for _, x := range []struct {
		r    api.Rate
		last int // the longest one that fits behind one of 1000 bytes
		time int64
	}{
		{slowest(), 3087, mostTicks},        // 1366 symbols of 24 bits have 4095 bytes
		{ht(0, 1, 20, 0), 3415, mostTicks},  // 1362 symbols of 26 bits have 4423 bytes
		{vht(0, 1, 20, 0), 3412, mostTicks}, // 1361 symbols of 26 bits have 4420 bytes
		{he(0, 1, 20, 0), 3961, mostTicks},  // 340 symbols of 117 bits have 4969 bytes
	} {
		for _, n := range []int64{mostTicks, mostTicks + 1, mostTicks + 39, mostTicks + 40, 1 << 40, api.MaxTime, math.MaxInt64} {
			mustGo(t, x.r, ticks(n), 2, 1000, x.last)
			mustGo(t, x.r, ticks(n), 2, 1000, x.last, 1)
			mustGo(t, x.r, ticks(n), 1, 1000, x.last+1)
		}
		mustGo(t, x.r, ticks(x.time-1), 1, 1000, x.last)
		mustGo(t, x.r, ticks(mostTicks-1), 1, 1000, x.last)
	}
}

// TestSlow: what takes longer than may be goes alone, whatever the limits are.
func TestSlow(t *testing.T) {
	for _, m := range []Limits{wide(), ticks(mostTicks), {64, 65535, mostTicks}, {64, 65535, mostTicks + 40}} {
		mustGo(t, slowest(), m, 1, 4091)
		mustGo(t, slowest(), m, 1, 4091, 1)
		for _, n := range []int{4092, 4093, 4094, longest} {
			mustGoAlone(t, slowest(), m, n)
			mustGoAlone(t, slowest(), m, n, 1)
			mustGoAlone(t, slowest(), m, n, 0)
			mustGo(t, slowest(), m, 1, 1, n)
		}
	}
}

// P17.1: a rate that may not be.

func TestWrongRate(t *testing.T) {
	for _, r := range noRates() {
		// Nothing takes any time at it: so no limit may be asked alone.
		for _, m := range []Limits{wide(), {}, {64, 65535, mostTicks}, count(0), size(0), ticks(0), ticks(-1)} {
			mustNotGo(t, r, m, 100)
			mustNotGo(t, r, m, 100, 200, 300)
			mustNotGo(t, r, m, 0)
			mustNotGo(t, r, m, longest+1, 100)
		}
	}
}

// P17.1: what goes alone.

// TestAlone: by none of the limits, by each of them, and by all, whatever comes behind it.
func TestAlone(t *testing.T) {
	for _, r := range someRates() {
		for _, m := range []Limits{
			{}, {-5, -5, -5}, {math.MinInt, math.MinInt, math.MinInt64}, {1, 1, 1},
			count(0), count(-1), size(0), size(-1), ticks(0), ticks(-1),
			{0, 65535, mostTicks}, {64, 0, mostTicks}, {64, 65535, 0}, {64, 104, 239}, {64, 10, mostTicks},
		} {
			for _, first := range []int{7, 100, 1526, longest} {
				for _, behind := range [][]int{nil, {7}, {1, 1}, {0}, {-1}, {longest + 1}, {math.MaxInt}, row(100, 26)} {
					mustGoAlone(t, r, m, join([]int{first}, behind)...)
				}
			}
		}
	}
}

// TestNothingGoesAlone: a first one that may not be does not go alone either, and none behind it does.
func TestNothingGoesAlone(t *testing.T) {
	for _, m := range []Limits{{}, {-5, -5, -5}, {1, 1, 1}, count(0), size(0), ticks(0), wide()} {
		for _, first := range noLengths() {
			mustNotGo(t, fastest(), m, first)
			mustNotGo(t, fastest(), m, first, 100)
		}
	}
}

// P17.1: the greatest n.

// TestNoneIsPassedOver: what does not fit any more ends it, though a shorter one behind it would fit.
func TestNoneIsPassedOver(t *testing.T) {
	r := ht(7, 1, 20, 0)
	mustGo(t, r, size(300), 2, 100, 100, 1526, 1, 1)
	mustGo(t, r, ticks(640), 2, 100, 100, 1526, 1, 1)
	mustGo(t, r, size(110), 1, 100, 1526, 1)
	mustGoAlone(t, r, size(103), 100, 1, 1)
	mustGoAlone(t, r, size(1000), 1526, 1, 1)
	mustFit(t, r, size(1000), 1, 1)
}

// TestEachBorder: of a list as long as may be, each number of frames is the greatest one by each of the limits.
func TestEachBorder(t *testing.T) {
	var lens []int
	for i := range mostFrames {
		lens = append(lens, 1+(i*37)%500)
	}
	for _, r := range someRates() {
		most, _ := rivalChoose(r, wide(), lens)
		for n := 1; n <= most; n++ {
			all := rivalBytes(lens[:n])
			mustGo(t, r, count(n), n, lens...)
			mustGo(t, r, size(all), n, lens...)
			time := rivalTicks(r, all)
			k, _ := Choose(r, ticks(time), lens...)
			// More may take as long, if the symbols have room for it.
			if k < n || rivalTicks(r, rivalBytes(lens[:k])) != time {
				t.Errorf("%v, %d ticks: %d of %d", r, time, k, n)
			}
			if n > 1 {
				mustGo(t, r, size(all-1), n-1, lens...)
			}
		}
	}
}

// TestManyThatTakeAsLong: what the last symbol has room for goes too.
func TestManyThatTakeAsLong(t *testing.T) {
	// Those that may go have 509 bytes in all; a symbol has 16333.
	mustGo(t, fastest(), ticks(1136), mostFrames, row(70, 1)...)
	mustGoAlone(t, fastest(), ticks(1135), row(70, 1)...)
}

// P17.2: fewer of what Fits fit.

// fewer is each list that is lens without some, but not without all.
func fewer(lens []int) [][]int {
	var l [][]int
	for mask := 1; mask < 1<<len(lens); mask++ {
		var some []int
		for i, n := range lens {
			if mask>>i&1 == 1 {
				some = append(some, n)
			}
		}
		l = append(l, some)
	}
	return l
}

// TestFewerFit: limits that are just what all of them need, and any of them are left out.
func TestFewerFit(t *testing.T) {
	for _, lens := range [][]int{
		{1, 2, 3, 4, 5, 6, 7, 8}, {4, 3, 2, 1}, {100, 101, 102, 103, 1}, {1526, 26, 1526, 27, 1}, {4080, 1}, {1, 4083},
	} {
		for _, r := range someRates() {
			all := rivalBytes(lens)
			m := Limits{Count: len(lens), Bytes: all, Ticks: rivalTicks(r, all)}
			if m.Ticks > mostTicks {
				t.Fatalf("%v at %v takes %d", lens, r, m.Ticks)
			}
			for _, some := range fewer(lens) {
				mustFit(t, r, m, some...)
				mustAnswer(t, r, m, len(some), true, some)
			}
		}
	}
}

// TestWhatDoesNotFitDoesNotWithMore: the other way round, one more of any length at any place.
func TestWhatDoesNotFitDoesNotWithMore(t *testing.T) {
	lens := []int{5, 100, 33}
	for _, r := range someRates() {
		all := rivalBytes(lens)
		for _, m := range []Limits{count(2), size(all - 1), ticks(rivalTicks(r, all) - 1)} {
			mustNotFit(t, r, m, lens...)
			for at := range len(lens) + 1 {
				for _, n := range []int{1, 2, 3, 4, 100, longest, 0, -1, -1000, math.MinInt, longest + 1, math.MaxInt} {
					mustNotFit(t, r, m, slices.Insert(slices.Clone(lens), at, n)...)
				}
			}
		}
	}
}

// P0.4, P0.5: what is handed in is left alone, and nothing is kept.

func TestHandedInIsLeftAlone(t *testing.T) {
	for _, x := range [][]int{
		{100, 200, 300}, {300, 200, 100}, {-1, 0, longest + 1}, {100, -1, math.MinInt}, {math.MaxInt, 1}, row(100, 999),
	} {
		for _, r := range []api.Rate{slowest(), fastest(), {}} {
			for _, m := range []Limits{wide(), {}, count(1), size(110), ticks(640)} {
				lens := slices.Clone(x)
				Choose(r, m, lens...)
				Fits(r, m, lens...)
				if !slices.Equal(lens, x) {
					t.Errorf("%v became %v", short(x), short(lens))
				}
			}
		}
	}
}

// TestBehindTheLengthIsLeftAlone: what lies behind a list is neither told nor changed.
func TestBehindTheLengthIsLeftAlone(t *testing.T) {
	for _, behind := range []int{-1, 0, 1, longest, math.MaxInt} {
		memory := []int{100, 200, behind, behind, behind}
		was := slices.Clone(memory)
		mustAnswer(t, fastest(), wide(), 2, true, memory[:2])
		mustFit(t, fastest(), wide(), memory[:2]...)
		mustAnswer(t, fastest(), Limits{}, 1, false, memory[:1])
		mustAnswer(t, fastest(), wide(), 0, false, memory[:0])
		mustNotFit(t, fastest(), wide(), memory[:0]...)
		if !slices.Equal(memory, was) {
			t.Errorf("%v became %v", was, memory)
		}
	}
}

// TestNothingIsKept: a list that is written over behind a call, and calls of others between.
func TestNothingIsKept(t *testing.T) {
	lens := []int{100, 100, 100}
	mustAnswer(t, fastest(), size(208), 2, true, lens)
	lens[0] = 204
	mustAnswer(t, fastest(), size(208), 1, true, lens)
	lens[0] = 205
	mustAnswer(t, fastest(), size(208), 1, false, lens)
	lens[0] = 0
	mustAnswer(t, fastest(), size(208), 0, false, lens)
	lens[0] = 100
	mustAnswer(t, api.Rate{}, size(208), 0, false, lens)
	mustAnswer(t, fastest(), size(208), 2, true, lens)
}

// A rival, worked out from the chapters' words alone.

// rivalBytes lays the frames one behind the other.
func rivalBytes(lens []int) int {
	all := 0
	for _, n := range lens {
		for all%4 != 0 {
			all++
		}
		all += 4 + n
	}
	return all
}

// rivalTicks takes symbol by symbol, till all bits have room.
func rivalTicks(r api.Rate, bytes int) int64 {
	time := int64(rate.Preamble(r))
	for left := 22 + 8*bytes; left > 0; left -= rate.Bits(r) {
		time += int64(rate.Symbol(r))
	}
	return time
}

func rivalFits(r api.Rate, m Limits, lens []int) bool {
	is := rate.Valid(r) && len(lens) >= 1
	for _, n := range lens {
		is = is && n >= 1 && n <= 4095
	}
	is = is && len(lens) <= m.Count && len(lens) <= 64
	if !is {
		return false
	}
	all := rivalBytes(lens)
	if all > m.Bytes || all > 65535 {
		return false
	}
	time := rivalTicks(r, all)
	return time <= m.Ticks && time <= 54840
}

// rivalChoose goes from all of them down.
func rivalChoose(r api.Rate, m Limits, lens []int) (int, bool) {
	for n := len(lens); n > 0; n-- {
		if rivalFits(r, m, lens[:n]) {
			return n, true
		}
	}
	if len(lens) > 0 && rate.Valid(r) && lens[0] >= 1 && lens[0] <= 4095 {
		return 1, false
	}
	return 0, false
}

// mustBeAsRival fails unless both calls answer what the rival does.
func mustBeAsRival(t *testing.T, r api.Rate, m Limits, lens []int) {
	t.Helper()
	n, is := rivalChoose(r, m, lens)
	mustAnswer(t, r, m, n, is, lens)
	if got, want := Fits(r, m, lens...), rivalFits(r, m, lens); got != want {
		t.Errorf("Fits(%v, %v, %d: %v) = %t", r, m, len(lens), short(lens), got)
	}
	if is {
		mustFit(t, r, m, lens[:n]...)
		if n < len(lens) {
			mustNotFit(t, r, m, lens[:n+1]...)
		}
	}
}

// dice is a row of numbers that is the same each time.
type dice uint64

// below is a number from 0 to below n.
func (d *dice) below(n int) int {
	*d += 0x9e3779b97f4a7c15
	z := uint64(*d)
	z = (z ^ z>>30) * 0xbf58476d1ce4e5b9
	z = (z ^ z>>27) * 0x94d049bb133111eb
	return int((z ^ z>>31) % uint64(n))
}

// pick is one of l.
func pick[T any](d *dice, l []T) T { return l[d.below(len(l))] }

// list is some lengths: short ones, long ones, or mixed, and now and then one that may not be.
func (d *dice) list() []int {
	most := 1 + d.below(pick(d, []int{10, 600, 1600, longest}))
	var lens []int
	for range d.below(80) {
		lens = append(lens, 1+d.below(most))
	}
	if len(lens) > 0 && d.below(4) == 0 {
		lens[d.below(len(lens))] = pick(d, noLengths())
	}
	return lens
}

// rate is one that may be, but now and then.
func (d *dice) rate(may []api.Rate) api.Rate {
	if d.below(20) == 0 {
		return pick(d, noRates())
	}
	return pick(d, may)
}

// limits is what a beginning of the list needs, or about that, or beyond all.
func (d *dice) limits(r api.Rate, lens []int) Limits {
	m := wide()
	n := d.below(len(lens) + 1)
	all := 0
	for _, k := range lens[:n] {
		all += 4 + min(max(k, 0), longest)
	}
	if d.below(2) == 0 {
		m.Count = n + d.below(3) - 1
	}
	if d.below(2) == 0 {
		m.Bytes = all + d.below(9) - 4 + d.below(8)*d.below(n+1)/2
	}
	if bits := int64(rate.Bits(r)); bits > 0 && d.below(2) == 0 {
		m.Ticks = int64(rate.Preamble(r)) + (int64(8*all)/bits+1)*int64(rate.Symbol(r)) + int64(d.below(5)-2)
	}
	return m
}

// met is how often each kind of answer came up.
type met struct{ all, some, alone, none int }

func (m *met) add(lens []int, n int, is bool) {
	switch {
	case is && n == len(lens):
		m.all++
	case is:
		m.some++
	case n == 1:
		m.alone++
	default:
		m.none++
	}
}

// TestModel: many lists, at rates and within limits of all kinds.
func TestModel(t *testing.T) {
	d, may, m := dice(17), everyRate(), met{}
	for range 20000 {
		r, lens := d.rate(may), d.list()
		l := d.limits(r, lens)
		mustBeAsRival(t, r, l, lens)
		n, is := Choose(r, l, lens...)
		m.add(lens, n, is)
		if t.Failed() {
			return
		}
	}
	if min(m.all, m.some, m.alone, m.none) < 500 {
		t.Errorf("too few of a kind: %+v", m)
	}
}

// TestFewerOfManyFit: of what goes together any are left out, one by one, till one is left.
func TestFewerOfManyFit(t *testing.T) {
	d, may := dice(2), everyRate()
	for range 500 {
		r, lens := pick(&d, may), d.list()
		l := d.limits(r, lens)
		n, is := Choose(r, l, lens...)
		if !is {
			continue
		}
		left := slices.Clone(lens[:n])
		all := rivalBytes(left)
		tight := Limits{Count: n, Bytes: all, Ticks: rivalTicks(r, all)}
		for len(left) > 0 {
			mustFit(t, r, l, left...)
			mustFit(t, r, tight, left...)
			mustAnswer(t, r, l, len(left), true, left)
			at := d.below(len(left))
			left = slices.Delete(left, at, at+1)
		}
	}
}

// FuzzBuild: any rate, any limits and any lengths.
func FuzzBuild(f *testing.F) {
	f.Add(2, 7, 1, 20, 0, 64, 65535, int64(mostTicks), []byte{100, 0, 100, 0, 0xf6, 5})
	f.Add(1, 0, 1, 20, 0, 1, 4095, int64(mostTicks), []byte{0xfb, 15, 1, 0})
	f.Add(4, 11, 8, 160, 2, 100, 1<<20, int64(1)<<40, []byte{0xff, 15, 0, 16, 0, 0})
	f.Add(3, 9, 8, 80, 1, -1, 0, int64(-1), []byte{1, 0})
	f.Fuzz(func(t *testing.T, mode, mcs, streams, width, gi, count, size int, ticks int64, b []byte) {
		r := api.Rate{Mode: mode, MCS: mcs, Streams: streams, Width: width, GI: gi}
		var lens []int
		for ; len(b) >= 2; b = b[2:] {
			lens = append(lens, int(int16(uint16(b[0])|uint16(b[1])<<8)))
		}
		mustBeAsRival(t, r, Limits{count, size, ticks}, lens)
	})
}
