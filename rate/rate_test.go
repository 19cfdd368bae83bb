package rate

import (
	"math"
	"slices"
	"testing"

	"muezzin/api"
)

// modes is what the chapter says which rates of a mode may be, written out.
func modes() map[int]struct{ mcss, streams, widths, gis []int } {
	upTo := func(first, last int) []int {
		var l []int
		for n := first; n <= last; n++ {
			l = append(l, n)
		}
		return l
	}
	return map[int]struct{ mcss, streams, widths, gis []int }{
		1: {upTo(0, 7), []int{1}, []int{20}, []int{0}},
		2: {upTo(0, 7), upTo(1, 4), []int{20, 40}, []int{0, 1}},
		3: {upTo(0, 9), upTo(1, 8), []int{20, 40, 80, 160}, []int{0, 1}},
		4: {upTo(0, 11), upTo(1, 8), []int{20, 40, 80, 160}, []int{0, 1, 2}},
	}
}

// modelValid is Valid as the chapter words it.
func modelValid(r api.Rate) bool {
	m := modes()[r.Mode]
	return slices.Contains(m.mcss, r.MCS) && slices.Contains(m.streams, r.Streams) &&
		slices.Contains(m.widths, r.Width) && slices.Contains(m.gis, r.GI)
}

// modelAll is All as the chapter words it.
func modelAll(mode int) []api.Rate {
	var l []api.Rate
	m := modes()[mode]
	for _, mcs := range m.mcss {
		for _, streams := range m.streams {
			for _, width := range m.widths {
				for _, gi := range m.gis {
					l = append(l, api.Rate{Mode: mode, MCS: mcs, Streams: streams, Width: width, GI: gi})
				}
			}
		}
	}
	return l
}

// everyRate is all rates that may be.
func everyRate() []api.Rate {
	return slices.Concat(modelAll(1), modelAll(2), modelAll(3), modelAll(4))
}

// legacy, ht, vht and he are rates of one mode: MCS, Streams, Width, GI.
func legacy(mcs int) api.Rate { return api.Rate{Mode: api.Legacy, MCS: mcs, Streams: 1, Width: 20} }
func ht(mcs, streams, width, gi int) api.Rate {
	return api.Rate{Mode: api.HT, MCS: mcs, Streams: streams, Width: width, GI: gi}
}
func vht(mcs, streams, width, gi int) api.Rate {
	return api.Rate{Mode: api.VHT, MCS: mcs, Streams: streams, Width: width, GI: gi}
}
func he(mcs, streams, width, gi int) api.Rate {
	return api.Rate{Mode: api.HE, MCS: mcs, Streams: streams, Width: width, GI: gi}
}

// mustBe fails unless r may be, and that is what is told of it.
func mustBe(t *testing.T, r api.Rate, bits, symbol, preamble int) {
	t.Helper()
	if !Valid(r) {
		t.Errorf("%v may not be", r)
	}
	if b, s, p := Bits(r), Symbol(r), Preamble(r); b != bits || s != symbol || p != preamble {
		t.Errorf("%v: %d bits, a symbol of %d, a preamble of %d, want %d, %d, %d", r, b, s, p, bits, symbol, preamble)
	}
}

// mustNotBe fails unless r may not be, and nothing is told of it.
func mustNotBe(t *testing.T, r api.Rate) {
	t.Helper()
	if Valid(r) {
		t.Errorf("%v may be", r)
	}
	if b, s, p := Bits(r), Symbol(r), Preamble(r); b != 0 || s != 0 || p != 0 {
		t.Errorf("%v: %d bits, a symbol of %d, a preamble of %d, but it may not be", r, b, s, p)
	}
}

// P8.1: ordinary rates

func TestLegacyRates(t *testing.T) {
	for mcs, bits := range []int{24, 36, 48, 72, 96, 144, 192, 216} {
		mustBe(t, legacy(mcs), bits, 40, 200)
	}
}

func TestHTRates(t *testing.T) {
	mustBe(t, ht(0, 1, 20, 0), 26, 40, 360)
	mustBe(t, ht(0, 1, 40, 0), 54, 40, 360)
	mustBe(t, ht(4, 1, 40, 1), 324, 36, 360)
	mustBe(t, ht(3, 2, 20, 0), 208, 40, 400)
	mustBe(t, ht(5, 3, 20, 1), 624, 36, 480)
	mustBe(t, ht(7, 4, 40, 1), 2160, 36, 480)
}

func TestVHTRates(t *testing.T) {
	mustBe(t, vht(0, 1, 20, 0), 26, 40, 400)
	mustBe(t, vht(8, 1, 20, 1), 312, 36, 400)
	mustBe(t, vht(9, 2, 40, 0), 1440, 40, 440)
	mustBe(t, vht(6, 3, 80, 0), 3159, 40, 520)
	mustBe(t, vht(7, 4, 160, 1), 9360, 36, 520)
	mustBe(t, vht(1, 6, 80, 1), 1404, 36, 600)
	mustBe(t, vht(9, 8, 160, 1), 24960, 36, 680)
}

func TestHERates(t *testing.T) {
	mustBe(t, he(0, 1, 20, 0), 117, 160, 440)
	mustBe(t, he(1, 1, 40, 1), 468, 144, 440)
	mustBe(t, he(2, 2, 80, 2), 2940, 136, 520)
	mustBe(t, he(4, 3, 20, 0), 2106, 160, 680)
	mustBe(t, he(8, 4, 160, 1), 47040, 144, 680)
	mustBe(t, he(10, 6, 40, 2), 21060, 136, 840)
	mustBe(t, he(11, 8, 160, 2), 130666, 136, 1000)
}

// P8.1: all rates that may be

// What a symbol has at one stream, by MCS, written out.
func TestBitsOfOneStream(t *testing.T) {
	for _, x := range []struct {
		mode, width int
		bits        []int
	}{
		{2, 20, []int{26, 52, 78, 104, 156, 208, 234, 260}},
		{2, 40, []int{54, 108, 162, 216, 324, 432, 486, 540}},
		{3, 20, []int{26, 52, 78, 104, 156, 208, 234, 260, 312, 346}},
		{3, 40, []int{54, 108, 162, 216, 324, 432, 486, 540, 648, 720}},
		{3, 80, []int{117, 234, 351, 468, 702, 936, 1053, 1170, 1404, 1560}},
		{3, 160, []int{234, 468, 702, 936, 1404, 1872, 2106, 2340, 2808, 3120}},
		{4, 20, []int{117, 234, 351, 468, 702, 936, 1053, 1170, 1404, 1560, 1755, 1950}},
		{4, 40, []int{234, 468, 702, 936, 1404, 1872, 2106, 2340, 2808, 3120, 3510, 3900}},
		{4, 80, []int{490, 980, 1470, 1960, 2940, 3920, 4410, 4900, 5880, 6533, 7350, 8166}},
		{4, 160, []int{980, 1960, 2940, 3920, 5880, 7840, 8820, 9800, 11760, 13066, 14700, 16333}},
	} {
		for mcs, want := range x.bits {
			for _, gi := range modes()[x.mode].gis {
				r := api.Rate{Mode: x.mode, MCS: mcs, Streams: 1, Width: x.width, GI: gi}
				if got := Bits(r); got != want {
					t.Errorf("Bits(%v) = %d, want %d", r, got, want)
				}
			}
		}
	}
}

// Down, behind all: a stream's bits are not cut for themselves.
func TestBitsAreCutBehindAll(t *testing.T) {
	for streams, want := range map[int]int{1: 346, 2: 693, 3: 1040, 4: 1386, 5: 1733, 6: 2080, 7: 2426, 8: 2773} {
		if got := Bits(vht(9, streams, 20, 0)); got != want {
			t.Errorf("Bits(%v) = %d, want %d", vht(9, streams, 20, 0), got, want)
		}
	}
	for streams, want := range map[int]int{1: 6533, 2: 13066, 3: 19600, 4: 26133, 5: 32666, 6: 39200, 7: 45733, 8: 52266} {
		if got := Bits(he(9, streams, 80, 2)); got != want {
			t.Errorf("Bits(%v) = %d, want %d", he(9, streams, 80, 2), got, want)
		}
	}
}

// modelBits is Bits of a rate that may be and is not Legacy, from how many sixths of a bit a carrier has.
func modelBits(r api.Rate) int {
	sixths := []int{3, 6, 9, 12, 18, 24, 27, 30, 36, 40, 45, 50}
	carriers := map[int]int{20: 52, 40: 108, 80: 234, 160: 468}
	if r.Mode == 4 {
		carriers = map[int]int{20: 234, 40: 468, 80: 980, 160: 1960}
	}
	return carriers[r.Width] * sixths[r.MCS] * r.Streams / 6
}

// Each rate, and that its symbol hangs on mode and GI alone, its preamble on mode and streams.
func TestEachRate(t *testing.T) {
	symbols := map[int][]int{1: {40}, 2: {40, 36}, 3: {40, 36}, 4: {160, 144, 136}}
	preambles := map[int][]int{
		1: {200},
		2: {360, 400, 480, 480},
		3: {400, 440, 520, 520, 600, 600, 680, 680},
		4: {440, 520, 680, 680, 840, 840, 1000, 1000},
	}
	for _, r := range everyRate() {
		bits := []int{24, 36, 48, 72, 96, 144, 192, 216}[r.MCS%8]
		if r.Mode != 1 {
			bits = modelBits(r)
		}
		mustBe(t, r, bits, symbols[r.Mode][r.GI], preambles[r.Mode][r.Streams-1])
	}
}

// P8.1: rates that may not be

// others is numbers far from any that a rate may have, those among them of which the low bits are as these.
func others() []int {
	l := []int{math.MinInt, math.MinInt + 1, math.MaxInt, math.MaxInt - 1}
	for _, n := range []int{0, 1, 2, 3, 4, 7, 8, 20, 40, 80, 160} {
		l = append(l, n-256, n+256, n-65536, n+65536, n-1<<32, n+1<<32, n+math.MinInt, -n-1)
	}
	return l
}

// fields is the numbers of a rate, to be written.
func fields(r *api.Rate) []*int { return []*int{&r.Mode, &r.MCS, &r.Streams, &r.Width, &r.GI} }

// All rates whose numbers are near to those that may be.
func TestWhichMayBe(t *testing.T) {
	widths := []int{-160, -80, -40, -20, -1, 0, 1, 2, 5, 10, 19, 20, 21, 30, 39, 40, 41, 60, 79, 80, 81, 100, 120, 159, 160, 161, 240, 320, 640}
	for mode := -1; mode <= 6; mode++ {
		for mcs := -2; mcs <= 13; mcs++ {
			for streams := -2; streams <= 10; streams++ {
				for _, width := range widths {
					for gi := -2; gi <= 4; gi++ {
						r := api.Rate{Mode: mode, MCS: mcs, Streams: streams, Width: width, GI: gi}
						if !modelValid(r) {
							mustNotBe(t, r)
						} else if !Valid(r) {
							t.Errorf("%v may not be", r)
						}
					}
				}
			}
		}
	}
}

// Every width, with all else as it may be.
func TestWidthsThatMayNotBe(t *testing.T) {
	for width := -700; width <= 1400; width++ {
		for mode := 1; mode <= 4; mode++ {
			r := api.Rate{Mode: mode, Streams: 1, Width: width}
			if modelValid(r) != Valid(r) {
				t.Errorf("Valid(%v) = %v", r, Valid(r))
			}
			if !modelValid(r) {
				mustNotBe(t, r)
			}
		}
	}
}

func TestModesThatMayNotBe(t *testing.T) {
	mustNotBe(t, api.Rate{})
	for _, mode := range append(others(), -1, 0, 5, 6, 255) {
		for _, r := range everyRate() {
			r.Mode = mode
			if !modelValid(r) {
				mustNotBe(t, r)
			}
		}
	}
}

// Of each mode a first, a middle and a last rate, with one number that is far from any.
func TestNumbersThatMayNotBe(t *testing.T) {
	for mode := 1; mode <= 4; mode++ {
		l := modelAll(mode)
		for _, good := range []api.Rate{l[0], l[len(l)/2], l[len(l)-1]} {
			for at := range fields(&good) {
				for _, n := range others() {
					r := good
					*fields(&r)[at] = n
					if !modelValid(r) {
						mustNotBe(t, r)
					}
				}
			}
		}
	}
}

// What one mode has, and another one hasn't.
func TestRatesOfAnotherMode(t *testing.T) {
	mustNotBe(t, legacy(8))
	mustNotBe(t, api.Rate{Mode: api.Legacy, Streams: 2, Width: 20})
	mustNotBe(t, api.Rate{Mode: api.Legacy, Streams: 1, Width: 40})
	mustNotBe(t, api.Rate{Mode: api.Legacy, Streams: 1, Width: 20, GI: 1})
	mustNotBe(t, ht(8, 1, 20, 0))
	mustNotBe(t, ht(0, 5, 20, 0))
	mustNotBe(t, ht(0, 1, 80, 0))
	mustNotBe(t, ht(0, 1, 160, 0))
	mustNotBe(t, ht(0, 1, 20, 2))
	mustNotBe(t, vht(10, 1, 20, 0))
	mustNotBe(t, vht(0, 9, 20, 0))
	mustNotBe(t, vht(0, 1, 320, 0))
	mustNotBe(t, vht(0, 1, 20, 2))
	mustNotBe(t, he(12, 1, 20, 0))
	mustNotBe(t, he(0, 9, 20, 0))
	mustNotBe(t, he(0, 1, 320, 0))
	mustNotBe(t, he(0, 1, 20, 3))
}

// P8.2

func TestAllOfEachMode(t *testing.T) {
	for mode, n := range map[int]int{api.Legacy: 8, api.HT: 128, api.VHT: 640, api.HE: 1152} {
		l := All(mode)
		if len(l) != n || !slices.Equal(l, modelAll(mode)) {
			t.Errorf("All(%d) = %v, want %d: %v", mode, l, n, modelAll(mode))
		}
		for _, r := range l {
			if !Valid(r) {
				t.Errorf("All(%d) has %v, which may not be", mode, r)
			}
		}
	}
}

func TestAllByMCSThenStreamsWidthGI(t *testing.T) {
	var of []int
	for _, r := range All(api.Legacy) {
		of = append(of, r.MCS)
	}
	if !slices.Equal(of, []int{0, 1, 2, 3, 4, 5, 6, 7}) {
		t.Errorf("All of Legacy has the MCS %v", of)
	}
	for _, x := range []struct {
		at   int
		want api.Rate
	}{
		{0, he(0, 1, 20, 0)}, {1, he(0, 1, 20, 1)}, {2, he(0, 1, 20, 2)}, {3, he(0, 1, 40, 0)}, {6, he(0, 1, 80, 0)},
		{11, he(0, 1, 160, 2)}, {12, he(0, 2, 20, 0)}, {95, he(0, 8, 160, 2)}, {96, he(1, 1, 20, 0)}, {1151, he(11, 8, 160, 2)},
	} {
		if l := All(api.HE); len(l) <= x.at || l[x.at] != x.want {
			t.Errorf("All of HE has not %v at %d", x.want, x.at)
		}
	}
}

func TestAllOfNoMode(t *testing.T) {
	for _, mode := range append(others(), -1, 0, 5, 6, 255) {
		if _, ok := modes()[mode]; ok {
			continue
		}
		if l := All(mode); len(l) > 0 {
			t.Errorf("All(%d) = %v", mode, l)
		}
	}
}

// What holds everywhere: memory.

func TestAllIsNewMemory(t *testing.T) {
	for mode := 1; mode <= 4; mode++ {
		first, second := All(mode), All(mode)
		for i := range first[:cap(first)] {
			first[:cap(first)][i] = api.Rate{Mode: 9, MCS: 9, Streams: 9, Width: 9, GI: 9}
		}
		if third := All(mode); !slices.Equal(second, modelAll(mode)) || !slices.Equal(third, modelAll(mode)) {
			t.Errorf("written through an answer of All(%d): %v, %v", mode, second, third)
		}
		for _, r := range modelAll(mode) {
			if !Valid(r) {
				t.Errorf("written through an answer of All(%d): %v may not be", mode, r)
			}
		}
	}
}

// FuzzRate holds all calls against the chapter's words, at any numbers.
func FuzzRate(f *testing.F) {
	f.Add(1, 0, 1, 20, 0)
	f.Add(4, 11, 8, 160, 2)
	f.Add(0, -1, math.MinInt, 1<<32+20, math.MaxInt)
	f.Fuzz(func(t *testing.T, mode, mcs, streams, width, gi int) {
		r := api.Rate{Mode: mode, MCS: mcs, Streams: streams, Width: width, GI: gi}
		if !modelValid(r) {
			mustNotBe(t, r)
		} else if !Valid(r) || Bits(r) < 24 || Symbol(r) < 36 || Preamble(r) < 200 {
			t.Errorf("%v: %v, %d, %d, %d", r, Valid(r), Bits(r), Symbol(r), Preamble(r))
		}
		if !slices.Equal(All(mode), modelAll(mode)) {
			t.Errorf("All(%d) = %v", mode, All(mode))
		}
	})
}
