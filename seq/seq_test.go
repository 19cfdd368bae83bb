package seq

import (
	"math"
	"math/big"
	"slices"
	"testing"
)

// marks are the numbers at which something turns: the ends of the round, its
// half, numbers outside of it, and the ends of int, where a sum overflows.
var marks = []int{
	math.MinInt, math.MinInt + 1, -1 << 40, -8193, -4097, -4096, -4095, -2049, -2048, -2047, -1,
	0, 1, 2, 1000, 2046, 2047, 2048, 2049, 4094, 4095, 4096, 4097, 6143, 6144, 8191, 8192,
	1 << 40, math.MaxInt - 1, math.MaxInt,
}

// exact is a + sign*b modulo 4096, reckoned without bounds.
func exact(a, b, sign int) int {
	n := new(big.Int).Mul(big.NewInt(int64(b)), big.NewInt(int64(sign)))
	n.Add(n, big.NewInt(int64(a)))
	return int(n.Mod(n, big.NewInt(4096)).Int64())
}

// P1.1

func TestAdd(t *testing.T) {
	for _, x := range []struct{ a, n, want int }{
		{0, 0, 0}, {1, 2, 3}, {100, 1900, 2000},
		{4095, 1, 0}, {4095, 4095, 4094}, {2047, 1, 2048}, {2048, 2047, 4095}, {2048, 2048, 0}, {0, 4095, 4095},
		{0, 4096, 0}, {4096, 0, 0}, {4097, 4096, 1}, {10000, 0, 1808},
		{0, -1, 4095}, {-1, 0, 4095}, {-1, 1, 0}, {-4096, -4096, 0}, {-4097, 0, 4095}, {5, -4096, 5}, {-2048, 0, 2048},
	} {
		if got := Add(x.a, x.n); got != x.want {
			t.Errorf("Add(%d, %d) = %d, want %d", x.a, x.n, got, x.want)
		}
	}
}

func TestDist(t *testing.T) {
	for _, x := range []struct{ a, b, want int }{
		{0, 0, 0}, {3, 10, 7}, {10, 3, 4089}, {7, 7, 0},
		{0, 4095, 4095}, {4095, 0, 1}, {4095, 4095, 0}, {0, 2047, 2047}, {0, 2048, 2048}, {2048, 0, 2048}, {2048, 2047, 4095},
		{0, 4096, 0}, {4096, 1, 1}, {1, 4096, 4095}, {8192, 4096, 0},
		{0, -1, 4095}, {-1, 0, 1}, {-1, -1, 0}, {-1, 4095, 0}, {-4096, 2, 2}, {-4097, 0, 1},
	} {
		if got := Dist(x.a, x.b); got != x.want {
			t.Errorf("Dist(%d, %d) = %d, want %d", x.a, x.b, got, x.want)
		}
	}
}

func TestAddAndDistAtMarks(t *testing.T) {
	for _, a := range marks {
		for _, b := range marks {
			if got, want := Add(a, b), exact(a, b, 1); got != want {
				t.Errorf("Add(%d, %d) = %d, want %d", a, b, got, want)
			}
			if got, want := Dist(a, b), exact(b, a, -1); got != want {
				t.Errorf("Dist(%d, %d) = %d, want %d", a, b, got, want)
			}
		}
	}
}

func TestAhead(t *testing.T) {
	for _, x := range []struct {
		a, b int
		want bool
	}{
		{0, 0, false}, {0, 1, true}, {1, 0, false}, {100, 200, true}, {200, 100, false},
		{0, 2046, true}, {0, 2047, true}, {0, 2048, false}, {0, 2049, false}, {0, 4095, false},
		{2048, 4095, true}, {2048, 0, false}, {2047, 0, false}, {2049, 0, true},
		{4095, 0, true}, {4095, 2046, true}, {4095, 2047, false}, {4095, 4095, false},
		{5, 4101, false}, {5, 4102, true}, {-1, 0, true}, {0, -1, false}, {-1, 4095, false}, {-2047, 0, true}, {-2048, 0, false},
	} {
		if got := Ahead(x.a, x.b); got != x.want {
			t.Errorf("Ahead(%d, %d) = %v, want %v", x.a, x.b, got, x.want)
		}
	}
}

func TestAheadAllRound(t *testing.T) {
	for _, a := range marks {
		for d := range 4096 {
			b := exact(a, d, 1)
			if got, want := Ahead(a, b), d >= 1 && d <= 2047; got != want {
				t.Fatalf("Ahead(%d, %d) = %v, want %v", a, b, got, want)
			}
		}
	}
}

func TestIn(t *testing.T) {
	for _, x := range []struct {
		start, size, s int
		want           bool
	}{
		{0, 1, 0, true}, {0, 1, 1, false}, {0, 64, 63, true}, {0, 64, 64, false}, {100, 64, 99, false}, {100, 64, 100, true},
		{4095, 1, 4095, true}, {4095, 1, 0, false}, {4095, 2, 0, true}, {4090, 10, 3, true}, {4090, 10, 4, false}, {4090, 10, 4089, false},
		{0, 2048, 2047, true}, {0, 2048, 2048, false}, {2048, 2048, 4095, true}, {2048, 2048, 0, false},
		{0, 4095, 4094, true}, {0, 4095, 4095, false}, {0, 4096, 4095, true}, {3, 4096, 2, true}, {3, 4097, 2, true}, {3, math.MaxInt, 2, true},
		{0, 2, 4096, true}, {0, 2, 4098, false}, {-1, 2, 0, true}, {-1, 2, 1, false}, {4096, 1, 0, true}, {0, 4095, -1, false}, {0, 4096, -1, true},
	} {
		if got := In(x.start, x.size, x.s); got != x.want {
			t.Errorf("In(%d, %d, %d) = %v, want %v", x.start, x.size, x.s, got, x.want)
		}
	}
}

func TestInOfSizesThatAreNone(t *testing.T) {
	for _, size := range []int{0, -1, -4095, -4096, -4097, math.MinInt} {
		for _, start := range marks {
			for _, s := range marks {
				if In(start, size, s) {
					t.Errorf("In(%d, %d, %d) is true", start, size, s)
				}
			}
		}
	}
}

// P1.2

func TestSort(t *testing.T) {
	for _, x := range []struct {
		start int
		l     []int
		want  []int
	}{
		{0, []int{7}, []int{7}},
		{0, []int{3, 1, 2}, []int{1, 2, 3}},
		{2, []int{3, 1, 2}, []int{2, 3, 1}},
		{4090, []int{3, 4095, 0, 4090}, []int{4090, 4095, 0, 3}},
		{0, []int{4095, 2048, 2047, 0}, []int{0, 2047, 2048, 4095}},
		{2048, []int{0, 2047, 2048, 4095}, []int{2048, 4095, 0, 2047}},
		{4095, []int{0, 2047, 2048, 4095, 4094}, []int{4095, 0, 2047, 2048, 4094}},
		{1, []int{0, 0, 1, 0, 1}, []int{1, 1, 0, 0, 0}},
		{0, []int{4096, -1, 4095, 8193, -4096}, []int{0, 0, 1, 4095, 4095}},
		{-1, []int{0, 4094, 4095, -1}, []int{4095, 4095, 0, 4094}},
		{4097, []int{0, 1, 2}, []int{1, 2, 0}},
		{math.MaxInt, []int{math.MinInt, math.MaxInt, 4094}, []int{4095, 0, 4094}},
		{math.MinInt, []int{math.MaxInt, math.MinInt, 1}, []int{0, 1, 4095}},
	} {
		if got := Sort(x.start, x.l...); !slices.Equal(got, x.want) {
			t.Errorf("Sort(%d, %v) = %v, want %v", x.start, x.l, got, x.want)
		}
	}
}

func TestSortOfNothing(t *testing.T) {
	for _, got := range [][]int{Sort(5), Sort(5, nil...), Sort(-5, []int{}...)} {
		if len(got) != 0 {
			t.Errorf("got %v, want nothing", got)
		}
	}
}

// Each number stands as often as it was handed in, and none stands nearer to start than the one ahead of it.
func TestSortOfMany(t *testing.T) {
	var l []int
	for i := range 3 * 4096 {
		l = append(l, i*1237-5000)
	}
	for _, start := range marks {
		got := Sort(start, l...)
		if len(got) != len(l) {
			t.Fatalf("start %d: %d numbers, want %d", start, len(got), len(l))
		}
		first := exact(start, 0, 1)
		for i, n := range got {
			if want := (first + i/3) % 4096; n != want {
				t.Fatalf("start %d: number %d is %d, want %d", start, i, n, want)
			}
		}
	}
}

func TestSortLeavesWhatItIsGiven(t *testing.T) {
	all := []int{9, 4096, 1, -1, 70, 60}
	Sort(0, all[1:4]...)
	if want := []int{9, 4096, 1, -1, 70, 60}; !slices.Equal(all, want) {
		t.Errorf("handed in %v, now %v", want, all)
	}
}

func TestSortAnswersNewMemory(t *testing.T) {
	in := []int{1, 2, 3, 50}
	l := in[:3]
	first, second := Sort(0, l...), Sort(0, l...)
	for i := range first {
		first[i] = 1000
	}
	_ = append(first, 2000)
	if !slices.Equal(in, []int{1, 2, 3, 50}) || !slices.Equal(second, []int{1, 2, 3}) {
		t.Errorf("written through: handed in %v, other answer %v", in, second)
	}
	if got := Sort(0, l...); !slices.Equal(got, []int{1, 2, 3}) {
		t.Errorf("a later answer is %v", got)
	}
}
