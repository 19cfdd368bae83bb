package air

import (
	"math"
	"slices"
	"testing"

	"muezzin/api"
	"muezzin/rate"
)

// top is the most bytes that may go.
const top = 1 << 20

// everyRate is all rates that may be.
func everyRate() []api.Rate {
	return slices.Concat(rate.All(api.Legacy), rate.All(api.HT), rate.All(api.VHT), rate.All(api.HE))
}

// legacy, ht, vht and he are rates of one mode: MCS, Streams, Width, GI.
func legacy(mcs int) api.Rate { return api.Rate{Mode: api.Legacy, MCS: mcs, Streams: 1, Width: 20} }
func ht(mcs, streams, width, gi int) api.Rate {
	return api.Rate{Mode: api.HT, MCS: mcs, Streams: streams, Width: width, GI: gi}
}
func vht(mcs, streams, width, gi int) api.Rate {
	return api.Rate{Mode: api.VHT, MCS: mcs, Streams: streams, Width: width, GI: gi}
}
func he(mcs, streams, width, gi int) api.Rate {
	return api.Rate{Mode: api.HE, MCS: mcs, Streams: streams, Width: width, GI: gi}
}

// noRates is rates that may not be, each for one reason.
func noRates() []api.Rate {
	return []api.Rate{
		{}, {Mode: -1, Streams: 1, Width: 20}, {Mode: 5, Streams: 1, Width: 20}, {Streams: 1, Width: 20},
		legacy(-1), legacy(8),
		{Mode: api.Legacy, Width: 20}, {Mode: api.Legacy, Streams: 2, Width: 20},
		{Mode: api.Legacy, Streams: 1, Width: 40}, {Mode: api.Legacy, Streams: 1, Width: 20, GI: 1},
		ht(8, 1, 20, 0), ht(0, 5, 20, 0), ht(0, 1, 80, 0), ht(0, 1, 20, 2), ht(0, 0, 20, 0), ht(0, 1, 0, 0),
		vht(10, 1, 20, 0), vht(0, 9, 20, 0), vht(0, 1, 320, 0), vht(0, 1, 20, 2), vht(0, 1, 20, -1),
		he(12, 1, 20, 0), he(0, 9, 20, 0), he(0, 1, 30, 0), he(0, 1, 20, 3),
		{Mode: math.MinInt, MCS: math.MaxInt, Streams: math.MaxInt, Width: math.MinInt, GI: math.MaxInt},
	}
}

// noBytes is numbers of bytes that may not go, those among them of which the low bits are as of some that may.
func noBytes() []int {
	l := []int{-1, -2, -32, top + 1, top + 2, 2 * top, -top, math.MaxInt, math.MaxInt - 1, math.MinInt, math.MinInt + 1}
	for _, n := range []int{0, 1, 32, 1500, top} {
		l = append(l, n+1<<32, n-1<<32, n+1<<61, n+1<<60, n-1<<61, n+math.MinInt)
	}
	return l
}

// modelPpdu is Ppdu as the chapter words it, of what may go: symbol by symbol till all bits have room.
func modelPpdu(r api.Rate, bytes int) int64 {
	bits, symbol := rate.Bits(r), int64(rate.Symbol(r))
	ticks := int64(rate.Preamble(r))
	for left := 22 + 8*bytes; left > 0; left -= bits {
		ticks += symbol
	}
	return ticks
}

// mustTake fails unless that many bytes take so long, and with the answer 480 ticks more.
func mustTake(t *testing.T, r api.Rate, bytes int, want int64) {
	t.Helper()
	if got := Ppdu(r, bytes); got != want {
		t.Errorf("Ppdu(%v, %d) = %d, want %d", r, bytes, got, want)
	}
	if got := Total(r, bytes); got != want+480 {
		t.Errorf("Total(%v, %d) = %d, want %d", r, bytes, got, want+480)
	}
}

// mustNotGo fails unless nothing is told of that many bytes at r.
func mustNotGo(t *testing.T, r api.Rate, bytes int) {
	t.Helper()
	if p, all := Ppdu(r, bytes), Total(r, bytes); p != 0 || all != 0 {
		t.Errorf("%d bytes at %v take %d, %d in all, but may not go", bytes, r, p, all)
	}
}

// mustBeMost fails unless so many bytes are the most in that time.
func mustBeMost(t *testing.T, r api.Rate, ticks int64, want int) {
	t.Helper()
	if got := Most(r, ticks); got != want {
		t.Errorf("Most(%v, %d) = %d, want %d", r, ticks, got, want)
	}
}

// mustBeTight fails unless what Most answers is not above ticks, and one byte more is, or may not go.
func mustBeTight(t *testing.T, r api.Rate, ticks int64) {
	t.Helper()
	n := Most(r, ticks)
	if n < -1 || n > top {
		t.Errorf("Most(%v, %d) = %d", r, ticks, n)
		return
	}
	if n >= 0 && modelPpdu(r, n) > ticks {
		t.Errorf("Most(%v, %d) = %d, which takes %d", r, ticks, n, modelPpdu(r, n))
	}
	if n < top && modelPpdu(r, n+1) <= ticks {
		t.Errorf("Most(%v, %d) = %d, but one more takes %d", r, ticks, n, modelPpdu(r, n+1))
	}
}

// P9.1 Ppdu and Total: written out

func TestPpduOfLegacy(t *testing.T) {
	mustTake(t, legacy(0), 0, 240)
	mustTake(t, legacy(0), 1, 280)
	mustTake(t, legacy(0), 3, 280)
	mustTake(t, legacy(0), 4, 320)
	mustTake(t, legacy(0), 1500, 20240)
	mustTake(t, legacy(0), top, 13981280)
	mustTake(t, legacy(4), 32, 320)
	mustTake(t, legacy(7), 0, 240)
	mustTake(t, legacy(7), 24, 240)
	mustTake(t, legacy(7), 25, 280)
	mustTake(t, legacy(7), 1500, 2440)
}

func TestPpduOfHT(t *testing.T) {
	mustTake(t, ht(0, 1, 20, 0), 0, 400)
	mustTake(t, ht(0, 1, 20, 0), 1, 440)
	mustTake(t, ht(7, 1, 20, 1), 29, 396)
	mustTake(t, ht(7, 1, 20, 1), 30, 432)
	mustTake(t, ht(7, 1, 20, 1), 1500, 2052)
	mustTake(t, ht(7, 1, 20, 1), top, 1161864)
	mustTake(t, ht(7, 3, 40, 1), 1500, 768)
}

func TestPpduOfVHT(t *testing.T) {
	mustTake(t, vht(0, 1, 20, 0), 0, 440)
	mustTake(t, vht(9, 2, 40, 0), 1500, 800)
	mustTake(t, vht(9, 8, 160, 1), 65535, 1472)
}

func TestPpduOfHE(t *testing.T) {
	mustTake(t, he(0, 1, 20, 0), 0, 600)
	mustTake(t, he(0, 1, 20, 0), 11, 600)
	mustTake(t, he(0, 1, 20, 0), 12, 760)
	mustTake(t, he(11, 2, 80, 2), 4095, 928)
	mustTake(t, he(4, 3, 20, 1), 1500, 1544)
	mustTake(t, he(11, 8, 160, 2), top, 9840)
}

// Bits that fill the last symbol just so need no further one: of a VHT symbol of 702 bits, 85 bytes and 22 bits.
func TestSymbolsThatAreJustFull(t *testing.T) {
	r := vht(4, 1, 80, 0)
	mustTake(t, r, 85, 440)
	mustTake(t, r, 86, 480)
	mustBeMost(t, r, 440, 85)
	mustBeMost(t, r, 479, 85)
	mustBeMost(t, r, 480, 172)
}

// P9.1 Ppdu and Total: all rates

// atAll is numbers of bytes that each rate is asked of.
func atAll() []int { return []int{0, 1, 2, 3, 4, 14, 29, 30, 31, 32, 250, 1499, 1500, 4095, 65535} }

func TestPpduOfEachRate(t *testing.T) {
	for _, r := range everyRate() {
		for _, n := range append(atAll(), top-1, top) {
			mustTake(t, r, n, modelPpdu(r, n))
		}
	}
}

// Each number of bytes, at a few rates, and none that takes less than one below it.
func TestPpduOfEachLength(t *testing.T) {
	for _, r := range []api.Rate{legacy(0), legacy(7), ht(7, 1, 20, 1), vht(9, 3, 20, 0), he(11, 8, 160, 2)} {
		bits, symbol := rate.Bits(r), int64(rate.Symbol(r))
		ticks := int64(rate.Preamble(r))
		room := -22
		last := int64(0)
		for n := 0; n <= top; n++ {
			for room < 8*n {
				room += bits
				ticks += symbol
			}
			got := Ppdu(r, n)
			if got != ticks || Total(r, n) != ticks+480 {
				t.Fatalf("%d bytes at %v take %d, %d in all, want %d", n, r, got, Total(r, n), ticks)
			}
			if got < last {
				t.Fatalf("%d bytes at %v take %d, one less %d", n, r, got, last)
			}
			last = got
		}
	}
}

// P9.1 Ppdu and Total: what may not go

func TestBytesThatMayNotGo(t *testing.T) {
	for _, r := range everyRate() {
		for _, n := range noBytes() {
			mustNotGo(t, r, n)
		}
	}
}

func TestRatesThatMayNotBe(t *testing.T) {
	for _, r := range noRates() {
		for _, n := range append(atAll(), top) {
			mustNotGo(t, r, n)
		}
		for _, n := range noBytes() {
			mustNotGo(t, r, n)
		}
	}
}

// P9.1 Answer

func TestAnswer(t *testing.T) {
	if got := Answer(); got != 480 {
		t.Errorf("Answer() = %d, want 480", got)
	}
}

// P9.1 Most: written out

func TestMost(t *testing.T) {
	mustBeMost(t, legacy(0), 239, -1)
	mustBeMost(t, legacy(0), 240, 0)
	mustBeMost(t, legacy(0), 279, 0)
	mustBeMost(t, legacy(0), 280, 3)
	mustBeMost(t, legacy(0), 319, 3)
	mustBeMost(t, legacy(0), 320, 6)
	mustBeMost(t, legacy(0), api.MaxAir, 4095)
	mustBeMost(t, legacy(0), 13981280, top)
	mustBeMost(t, legacy(0), 13981279, top-1)
	mustBeMost(t, ht(7, 1, 20, 1), 395, -1)
	mustBeMost(t, ht(7, 1, 20, 1), 396, 29)
	mustBeMost(t, ht(7, 1, 20, 1), 2051, 1492)
	mustBeMost(t, ht(7, 1, 20, 1), 2052, 1524)
	mustBeMost(t, he(0, 1, 20, 0), 599, -1)
	mustBeMost(t, he(0, 1, 20, 0), 600, 11)
	mustBeMost(t, he(11, 8, 160, 2), 1136, 16330)
	mustBeMost(t, he(11, 8, 160, 2), 9839, 1045325)
	mustBeMost(t, he(11, 8, 160, 2), 9840, top)
}

// manyTicks is times that are enough for all, those among them of which the low bits are as of a short one.
func manyTicks() []int64 {
	l := []int64{api.MaxTime, api.MaxTime + 1, math.MaxInt64, math.MaxInt64 - 1, 1 << 32, 1 << 62}
	for _, n := range []int64{0, 239, 240, 280, 2000} {
		l = append(l, n+1<<32, n+1<<40, n+1<<61)
	}
	return l
}

// noTicks is times that are enough for nothing, those among them of which the low bits are as of a long one.
func noTicks() []int64 {
	l := []int64{0, 1, 40, 199, 239, -1, -40, -240, -100000, math.MinInt64, math.MinInt64 + 1, math.MinInt64 + 300}
	for _, n := range []int64{0, 239, 240, 280, 2000} {
		l = append(l, n-1<<32, n-1<<40, n-1<<61)
	}
	return l
}

// P9.1 Most: all rates

func TestMostOfEachRate(t *testing.T) {
	for _, r := range everyRate() {
		for _, ticks := range manyTicks() {
			mustBeMost(t, r, ticks, top)
		}
		for _, ticks := range noTicks() {
			mustBeMost(t, r, ticks, -1)
		}
		first := modelPpdu(r, 0)
		mustBeMost(t, r, first-1, -1)
		mustBeTight(t, r, first)
		last := modelPpdu(r, top)
		mustBeMost(t, r, last, top)
		mustBeMost(t, r, last+1, top)
		mustBeTight(t, r, last-1)
		if Most(r, last-1) == top {
			t.Errorf("Most(%v, %d) = %d, which takes a tick more", r, last-1, top)
		}
		for _, n := range atAll() {
			mustBeTight(t, r, modelPpdu(r, n)-1)
			mustBeTight(t, r, modelPpdu(r, n))
		}
	}
}

// Each number of ticks, at a few rates.
func TestMostOfEachTime(t *testing.T) {
	for _, r := range []api.Rate{legacy(7), ht(7, 4, 40, 1), vht(9, 3, 80, 0), he(9, 1, 80, 2), he(11, 8, 160, 2)} {
		last := modelPpdu(r, top)
		symbol := int64(rate.Symbol(r))
		end := int64(rate.Preamble(r)) + symbol
		room := rate.Bits(r)
		want := -1
		for ticks := int64(-1000); ticks <= last+1000; ticks++ {
			if ticks == end {
				want = min((room-22)/8, top)
				end += symbol
				room += rate.Bits(r)
			}
			if got := Most(r, ticks); got != want {
				t.Fatalf("Most(%v, %d) = %d, want %d", r, ticks, got, want)
			}
		}
	}
}

func TestMostAtRatesThatMayNotBe(t *testing.T) {
	for _, r := range noRates() {
		for _, ticks := range slices.Concat(manyTicks(), noTicks(), []int64{240, 280, 1000, api.MaxAir}) {
			mustBeMost(t, r, ticks, -1)
		}
	}
}

// P9.2

func TestMoreBytesNeverTakeLess(t *testing.T) {
	for _, r := range everyRate() {
		var ticks, all int64
		for n := 0; n <= top; n += 1021 {
			for _, n := range []int{n, min(n+1, top)} {
				p, total := Ppdu(r, n), Total(r, n)
				if p < ticks || total < all {
					t.Fatalf("%d bytes at %v take %d, %d in all; fewer take %d, %d", n, r, p, total, ticks, all)
				}
				ticks, all = p, total
			}
		}
	}
}

// FuzzAir holds all calls against the chapter's words, at any numbers.
func FuzzAir(f *testing.F) {
	f.Add(1, 0, 1, 20, 0, 0, int64(240))
	f.Add(4, 11, 8, 160, 2, top, int64(9839))
	f.Add(0, -1, math.MinInt, 1<<32+20, math.MaxInt, -1, int64(math.MinInt64))
	f.Fuzz(func(t *testing.T, mode, mcs, streams, width, gi, bytes int, ticks int64) {
		r := api.Rate{Mode: mode, MCS: mcs, Streams: streams, Width: width, GI: gi}
		if !rate.Valid(r) {
			mustNotGo(t, r, bytes)
			mustBeMost(t, r, ticks, -1)
			return
		}
		if bytes < 0 || bytes > top {
			mustNotGo(t, r, bytes)
		} else {
			mustTake(t, r, bytes, modelPpdu(r, bytes))
		}
		mustBeTight(t, r, ticks)
	})
}
