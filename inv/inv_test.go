package inv

import (
	"math"
	"math/big"
	"testing"
)

// The ends that the chapter names.
const (
	maxTime   = 1 << 50
	longest   = 1 << 30
	whole     = 1 << 32
	lastRoot  = 1<<32 - 1
	lastCount = 1<<32 - 1
)

// pow is x to the k.
func pow(x uint64, k int) uint64 {
	p := uint64(1)
	for range k {
		p *= x
	}
	return p
}

// squareAbove tells whether x times x is above n, without bounds.
func squareAbove(x, n uint64) bool {
	b := new(big.Int).SetUint64(x)
	return b.Mul(b, b).Cmp(new(big.Int).SetUint64(n)) > 0
}

// above tells whether x times x times count is above 2^64, without bounds; a count of 0 is as 1.
func above(x uint64, count uint32) bool {
	b := new(big.Int).SetUint64(x)
	b.Mul(b, b).Mul(b, new(big.Int).SetUint64(max(uint64(count), 1)))
	return b.Cmp(new(big.Int).Lsh(big.NewInt(1), 64)) > 0
}

// modelNext is Next as the chapter words it, without bounds.
func modelNext(at, interval int64, count uint32) int64 {
	at, interval = min(max(at, 0), maxTime), min(max(interval, 0), longest)
	b := new(big.Int).SetUint64(Inv(count))
	b.Mul(b, big.NewInt(interval)).Div(b, big.NewInt(whole))
	return b.Add(b, big.NewInt(at)).Int64()
}

// mustRoot fails unless n has that root.
func mustRoot(t *testing.T, n, want uint64) {
	t.Helper()
	if got := Root(n); got != want {
		t.Errorf("Root(%d) = %d, want %d", n, got, want)
	}
}

// mustInv fails unless Inv of count is that.
func mustInv(t *testing.T, count uint32, want uint64) {
	t.Helper()
	if got := Inv(count); got != want {
		t.Errorf("Inv(%d) = %d, want %d", count, got, want)
	}
}

// mustNext fails unless Next is that.
func mustNext(t *testing.T, at, interval int64, count uint32, want int64) {
	t.Helper()
	if got := Next(at, interval, count); got != want {
		t.Errorf("Next(%d, %d, %d) = %d, want %d", at, interval, count, got, want)
	}
}

// checkRoot fails unless Root(n) is the greatest whose square is not above n.
func checkRoot(t *testing.T, n uint64) {
	t.Helper()
	if r := Root(n); squareAbove(r, n) || !squareAbove(r+1, n) {
		t.Errorf("Root(%d) = %d", n, r)
	}
}

// checkInv fails unless Inv(count) is the greatest that times itself times count is not above 2^64.
func checkInv(t *testing.T, count uint32) {
	t.Helper()
	if x := Inv(count); above(x, count) || !above(x+1, count) {
		t.Errorf("Inv(%d) = %d", count, x)
	}
}

// checkNext fails unless Next is as the model has it.
func checkNext(t *testing.T, at, interval int64, count uint32) {
	t.Helper()
	mustNext(t, at, interval, count, modelNext(at, interval, count))
}

// P10.1: Root.

func TestRootWritten(t *testing.T) {
	for n, want := range map[uint64]uint64{
		0: 0, 1: 1, 2: 1, 3: 1, 4: 2, 5: 2, 8: 2, 9: 3, 10: 3, 15: 3, 16: 4, 24: 4, 25: 5, 99: 9, 100: 10,
		999999: 999, 1000000: 1000, 1000001: 1000, 123456789: 11111,
		1<<32 - 1: 1<<16 - 1, 1 << 32: 1 << 16, 1<<32 + 1: 1 << 16,
		1<<53 - 1: 94906265, 1 << 53: 94906265, 1<<53 + 1: 94906265,
		1<<62 - 1: 1<<31 - 1, 1 << 62: 1 << 31, 1<<62 + 1: 1 << 31,
		1<<63 - 1: 3037000499, 1 << 63: 3037000499, 1<<63 + 1: 3037000499,
		18446744065119617024: 4294967294, 18446744065119617025: 4294967295, 18446744065119617026: 4294967295,
		math.MaxUint64 - 1: lastRoot, math.MaxUint64: lastRoot,
	} {
		mustRoot(t, n, want)
	}
}

// TestRootCounted goes through the first numbers, and counts where the root is one more.
func TestRootCounted(t *testing.T) {
	root := uint64(0)
	for n := range uint64(1 << 20) {
		if n == (root+1)*(root+1) {
			root++
		}
		mustRoot(t, n, root)
	}
}

// TestRootSquares asks squares, one less and one more.
func TestRootSquares(t *testing.T) {
	square := func(k uint64) {
		mustRoot(t, k*k, k)
		mustRoot(t, k*k-1, k-1)
		if k > 1 {
			mustRoot(t, k*k+1, k)
			mustRoot(t, k*k+2*k, k)
		}
	}
	for k := uint64(1); k <= lastRoot; k += 1 + k/3000 {
		square(k)
	}
	for d := range uint64(10000) {
		square(lastRoot - d)
		square(1<<31 + d)
		square(1<<31 - d)
	}
	for k := uint64(1); k <= 1<<31; k *= 2 {
		square(k)
		square(2*k - 1)
	}
}

// TestRootPowers asks what lies about each power of two, and about each number of bits that are one.
func TestRootPowers(t *testing.T) {
	for k := range 64 {
		for d := range uint64(200) {
			checkRoot(t, 1<<k+d)
			checkRoot(t, 1<<k-1-d)
			checkRoot(t, math.MaxUint64<<k-d)
		}
	}
}

func TestRootAll64(t *testing.T) {
	// An odd step of about 2^64 over the golden ratio comes by everywhere.
	n := uint64(0)
	for range 50000 {
		n += 0x9e3779b97f4a7c15
		checkRoot(t, n)
		checkRoot(t, n>>(n&63))
	}
}

// P10.1: Inv.

func TestInvWritten(t *testing.T) {
	for count, want := range map[uint32]uint64{
		0: whole, 1: whole, 2: 3037000499, 3: 2479700524, 4: 1 << 31, 5: 1920767766, 6: 1753413056, 7: 1623345050,
		8: 1518500249, 9: 1431655765, 10: 1358187913, 15: 1108955787, 16: 1 << 30, 17: 1041682577,
		100: 429496729, 1000: 135818791,
		65535: 16777344, 65536: 16777216, 65537: 16777088,
		1<<30 - 1: 131072, 1 << 30: 131072, 1<<30 + 1: 131071,
		1<<31 - 1: 92681, 1 << 31: 92681, 1<<31 + 1: 92681,
		4294836224: 65537, 4294836225: 65537, 4294836226: 65537,
		lastCount - 1: 65536, lastCount: 65536,
	} {
		mustInv(t, count, want)
	}
}

// TestInvPowersOfFour asks the counts whose root is a whole power of two, for which 2^64 itself is met.
func TestInvPowersOfFour(t *testing.T) {
	for k := range 16 {
		count := uint32(pow(4, k))
		mustInv(t, count, whole>>k)
		if above(Inv(count), count) {
			t.Errorf("Inv(%d) is too much", count)
		}
		checkInv(t, count-1)
		checkInv(t, count+1)
		if more := Inv(count + 1); more >= whole>>k {
			t.Errorf("Inv(%d) = %d, as of a count of one less", count+1, more)
		}
	}
}

// TestInvSquares asks all counts whose root is whole.
func TestInvSquares(t *testing.T) {
	for k := uint64(1); k < 1<<16; k++ {
		mustInv(t, uint32(k*k), whole/k)
	}
}

// TestInvDefinition asks the first counts, the last ones, those about powers of two, and others between.
func TestInvDefinition(t *testing.T) {
	for d := range uint32(20000) {
		checkInv(t, d)
		checkInv(t, lastCount-d)
	}
	for k := range 32 {
		for d := range uint32(200) {
			checkInv(t, 1<<k+d)
			checkInv(t, 1<<k-d)
		}
	}
	count := uint32(0)
	for range 50000 {
		count += 0x9e3779b9
		checkInv(t, count)
	}
}

// TestInvEveryAnswer goes to the last count of each of the small answers: there one more has another one.
func TestInvEveryAnswer(t *testing.T) {
	for x := uint64(1<<16 + 1); x < 1<<18; x++ {
		last := new(big.Int).Lsh(big.NewInt(1), 64)
		count := uint32(last.Div(last, new(big.Int).SetUint64(x*x)).Uint64())
		mustInv(t, count, x)
		if got := Inv(count + 1); got >= x {
			t.Errorf("Inv(%d) = %d, want less than %d", count+1, got, x)
		}
	}
}

// P10.1: Next.

func TestNextWritten(t *testing.T) {
	for _, x := range []struct {
		at, interval int64
		count        uint32
		want         int64
	}{
		{100, 1000, 0, 1100}, {100, 1000, 1, 1100}, {100, 1000, 2, 807}, {100, 1000, 3, 677}, {100, 1000, 4, 600},
		{0, 1000000, 1, 1000000}, {0, 1000000, 2, 707106}, {0, 1000000, 3, 577350}, {0, 1000000, 5, 447213},
		{0, 1000000, 10, 316227}, {5000, 1000000, 16, 255000}, {0, 0, 1, 0}, {7, 0, 9, 7}, {0, 1, 1, 1}, {0, 1, 2, 0},
		{0, 7, 16, 1}, {0, 8, 16, 2}, {3, 8, 16, 5},
		// Inv is cut down ahead of the product: a third of 3 is not reached, nor a tenth of a million.
		{0, 3, 9, 0}, {0, 4, 9, 1}, {0, 1000000, 100, 99999},
		{0, 65535, lastCount, 0}, {0, 65536, lastCount, 1}, {0, longest, lastCount, 1 << 14},
	} {
		mustNext(t, x.at, x.interval, x.count, x.want)
	}
}

func TestNextInterval(t *testing.T) {
	for _, interval := range []int64{0, -1, -2, -1000, -longest, -1 << 32, -1<<32 + 5, math.MinInt64, math.MinInt64 + 5} {
		for _, count := range []uint32{0, 1, 2, 4, 9, lastCount} {
			mustNext(t, 77, interval, count, 77)
		}
	}
	for _, interval := range []int64{longest, longest + 1, longest + 2, 1 << 31, 1 << 32, 1<<32 + 5, 1<<33 - 1, maxTime, 1 << 62, math.MaxInt64 - 1, math.MaxInt64} {
		mustNext(t, 77, interval, 0, 77+longest)
		mustNext(t, 77, interval, 1, 77+longest)
		mustNext(t, 77, interval, 2, 77+759250124)
		mustNext(t, 77, interval, 4, 77+1<<29)
		mustNext(t, 77, interval, lastCount, 77+1<<14)
	}
	mustNext(t, 77, longest-1, 1, 77+longest-1)
	mustNext(t, 77, longest-1, 2, 77+759250124)
	mustNext(t, 77, longest-1, 4, 77+1<<29-1)
}

func TestNextAt(t *testing.T) {
	for _, at := range []int64{0, -1, -7, -1000, -maxTime, -1<<32 + 9, math.MinInt64, math.MinInt64 + 9} {
		mustNext(t, at, 10, 1, 10)
		mustNext(t, at, 10, 4, 5)
		mustNext(t, at, -10, 4, 0)
	}
	for _, at := range []int64{maxTime, maxTime + 1, maxTime + 5, 2 * maxTime, 1<<51 + 9, 1 << 62, math.MaxInt64 - 1, math.MaxInt64} {
		// What is answered may be above MaxTime: at is cut, it is not.
		mustNext(t, at, 0, 1, maxTime)
		mustNext(t, at, 10, 1, maxTime+10)
		mustNext(t, at, longest, 1, maxTime+longest)
		mustNext(t, at, longest, 3, maxTime+619925131)
		mustNext(t, at, math.MinInt64, 3, maxTime)
		mustNext(t, at, math.MaxInt64, 3, maxTime+619925131)
	}
	mustNext(t, maxTime-1, 10, 1, maxTime+9)
	mustNext(t, maxTime-1, 0, 1, maxTime-1)
	mustNext(t, 1, 10, 1, 11)
}

func TestNextModel(t *testing.T) {
	times := []int64{math.MinInt64, -1, 0, 1, 100, 1 << 32, maxTime - 1, maxTime, maxTime + 1, math.MaxInt64}
	intervals := []int64{math.MinInt64, -1, 0, 1, 2, 3, 1000, 999999, 1000000, longest - 1, longest, longest + 1, math.MaxInt64}
	for _, at := range times {
		for _, interval := range intervals {
			for count := range uint32(150) {
				checkNext(t, at, interval, count)
				checkNext(t, at, interval, lastCount-count)
			}
		}
	}
	for interval := range int64(20000) {
		checkNext(t, 0, interval, uint32(interval%257))
		checkNext(t, 0, longest-interval, uint32(interval))
	}
}

// FuzzInv holds all three calls against what the chapter words.
func FuzzInv(f *testing.F) {
	f.Add(uint64(0), uint32(0), int64(0), int64(0))
	f.Add(uint64(math.MaxUint64), uint32(lastCount), int64(maxTime), int64(longest))
	f.Add(uint64(1<<62), uint32(4), int64(-1), int64(-1))
	f.Fuzz(func(t *testing.T, n uint64, count uint32, at, interval int64) {
		checkRoot(t, n)
		checkInv(t, count)
		checkNext(t, at, interval, count)
	})
}
