package hash

import (
	"math/big"
	"testing"

	"muezzin/api"
)

// The last flow, and the last seed.
const last = 1<<32 - 1

// edges are flows and seeds at which something turns.
var edges = []uint32{0, 1, 2, 15, 16, 57, 58, 59, 1<<15 - 1, 1 << 15, 1<<16 - 1, 1 << 16, 1<<16 + 1, 1<<31 - 1, 1 << 31, 1<<31 + 1, 0xffff0000, last - 1, last}

// xor is a and b bit by bit: where just one of both has it.
func xor(a, b *big.Int) *big.Int { return new(big.Int).Xor(a, b) }

// cut is x modulo 2^32.
func cut(x *big.Int) *big.Int { return new(big.Int).Mod(x, big.NewInt(1<<32)) }

// modelMix is Mix as the chapter words it, without bounds but where it is cut.
func modelMix(flow, seed uint32) uint32 {
	x := xor(big.NewInt(int64(flow)), big.NewInt(int64(seed)))
	for range 2 {
		x = xor(x, new(big.Int).Div(x, big.NewInt(65536)))
		x = cut(x.Mul(x, big.NewInt(73244475)))
	}
	return uint32(xor(x, new(big.Int).Div(x, big.NewInt(65536))).Uint64())
}

// undo is what flow xor seed was, of a Mix: its steps from behind, by the factor's inverse in 32 bits.
func undo(mix uint32) uint32 {
	for range 2 {
		mix = (mix ^ mix>>16) * 0x119de1f3
	}
	return mix ^ mix>>16
}

// mustMix fails unless Mix is that, and Bucket what it is modulo 16.
func mustMix(t *testing.T, flow, seed, want uint32) {
	t.Helper()
	if got := Mix(flow, seed); got != want {
		t.Errorf("Mix(%#x, %#x) = %#x, want %#x", flow, seed, got, want)
	}
	mustBucket(t, flow, seed, int(want&15))
}

// mustBucket fails unless Bucket is that.
func mustBucket(t *testing.T, flow, seed uint32, want int) {
	t.Helper()
	if got := Bucket(flow, seed); got != want {
		t.Errorf("Bucket(%#x, %#x) = %d, want %d", flow, seed, got, want)
	}
}

// P12.1: Mix.

func TestMixWritten(t *testing.T) {
	for _, x := range []struct{ flow, seed, want uint32 }{
		{0, 0, 0},
		{1, 0, 0x31251ba7}, {0, 1, 0x31251ba7}, {3, 2, 0x31251ba7},
		{5, 6, 0xdfb6d245}, {6, 5, 0xdfb6d245}, {1000, 9, 0xd38d32c2},
		{0xdeadbeef, 42, 0x086e0d29}, {0x12345678, 0x9abcdef0, 0xb91e6856},
		{0, last, 0x2028884f}, {last, 0, 0x2028884f}, {last, last, 0},
		{1, last, 0x477a6db9}, {last, 1, 0x477a6db9}, {last - 1, 0, 0x477a6db9},
		{0xffff, 0, 0xca3541bd}, {0xffff0000, 0, 0x0d69c4d4}, {0xffff0000, 0xffff, 0x2028884f}, {0x7fffffff, 0, 0xbe48bade},
	} {
		mustMix(t, x.flow, x.seed, x.want)
	}
}

// alone is Mix of each bit alone.
var alone = [32]uint32{
	0x31251ba7, 0x66a79298, 0xcd4f2531, 0x9a9f4a63, 0x399d78ae, 0x77985639, 0x92c870b5, 0x29ef4dda,
	0x583c3f99, 0xb0787f32, 0xc1b65f22, 0x87ca5ba9, 0xb32eeb2f, 0x09f546c8, 0x74afead5, 0xedbc3193,
	0xd4f6e267, 0x4d8541d8, 0x9b0a83b0, 0x96d9a7ad, 0x32103033, 0x687dcbfc, 0xd5583365, 0x4e4a25ff,
	0x402d3688, 0xe11f0c55, 0xc23f18ab, 0x88dddcbe, 0xb553fd52, 0x0e3f2102, 0x1c7e4204, 0x3d5a6175,
}

func TestMixOfOneBit(t *testing.T) {
	for i, want := range alone {
		mustMix(t, 1<<i, 0, want)
		mustMix(t, 0, 1<<i, want)
		mustMix(t, last, last^1<<i, want)
		mustMix(t, 0x12345678^1<<i, 0x12345678, want)
	}
}

// TestMixGoesRound asks the first flows whose product with the factor is not below 2^32, the ones ahead of
// them, and others of which a product that went on above 32 bits would tell in the answer.
func TestMixGoesRound(t *testing.T) {
	for flow, want := range map[uint32]uint32{
		57: 0xfca79e7e, 58: 0xb5833c7b, 59: 0x4bdf3291, 60: 0x675238d5, 100: 0x5c663f0c,
		1 << 15: 0xedbc3193, 1<<16 - 1: 0xca3541bd, 1 << 16: 0xd4f6e267, 1<<31 - 1: 0xbe48bade, 1 << 31: 0x3d5a6175, last: 0x2028884f,
	} {
		mustMix(t, flow, 0, want)
	}
}

// TestMixEnds asks for answers at the ends of 32 bits, and about their middle.
func TestMixEnds(t *testing.T) {
	for flow, want := range map[uint32]uint32{
		0x4ab1acdb: 1, 0xb2a23a10: 1<<31 - 1, 0x3bbfaee4: 1 << 31, 0x8d5b36b7: 1<<31 + 1, 0xd413c368: last - 1, 0x58d5ab82: last,
	} {
		mustMix(t, flow, 0, want)
		mustMix(t, flow^last, last, want)
	}
}

func TestMixOfTheSame(t *testing.T) {
	for _, x := range edges {
		mustMix(t, x, x, 0)
	}
	for x := range uint32(5000) {
		mustMix(t, x*0x9e3779b9, x*0x9e3779b9, 0)
	}
}

func TestMixOfEachOthers(t *testing.T) {
	for _, a := range edges {
		for _, b := range edges {
			mustMix(t, a, b, modelMix(a, b))
			mustMix(t, b, a, modelMix(a, b))
			mustMix(t, a^b, 0, modelMix(a, b))
		}
	}
}

func TestMixModel(t *testing.T) {
	// Odd steps of about 2^32 over the golden ratio come by everywhere.
	flow, seed := uint32(0), uint32(0)
	for i := range uint32(20000) {
		flow += 0x9e3779b9
		seed += 0x7f4a7c15
		mustMix(t, flow, seed, modelMix(flow, seed))
		mustMix(t, i, 9, modelMix(i, 9))
		mustMix(t, last-i, 0, modelMix(last-i, 0))
	}
}

// TestMixUndone goes back from Mix: no two flows of one seed have the same.
func TestMixUndone(t *testing.T) {
	flow := uint32(0)
	for range 1 << 20 {
		flow += 0x9e3779b9
		for _, seed := range []uint32{0, 9, last} {
			if got := undo(Mix(flow, seed)); got != flow^seed {
				t.Fatalf("Mix(%#x, %#x) is undone to %#x", flow, seed, got)
			}
		}
	}
}

// P12.1: Bucket.

func TestBucketWritten(t *testing.T) {
	// Two flows of each bucket, of a seed of 9.
	for want, flows := range [16][2]uint32{
		{9, 22}, {13, 30}, {12, 26}, {1, 14}, {3, 16}, {10, 35}, {21, 96}, {7, 8},
		{11, 15}, {41, 45}, {23, 28}, {0, 32}, {2, 5}, {6, 18}, {4, 25}, {24, 40},
	} {
		for _, flow := range flows {
			mustBucket(t, flow, 9, want)
			mustBucket(t, 9, flow, want)
		}
	}
}

// TestBucketFirstAndLast asks Mixes of the first bucket and of the last one, from the lowest to the highest.
func TestBucketFirstAndLast(t *testing.T) {
	for flow, mix := range map[uint32]uint32{0: 0, 0xbfcd7e27: 16, 0x7f9bfc4f: 32, 0x7b5f169e: 0x7ffffff0, 0x3bbfaee4: 0x80000000, 0x63fe18ae: 0xfffffff0} {
		mustMix(t, flow, 0, mix)
		mustBucket(t, flow, 0, 0)
	}
	for flow, mix := range map[uint32]uint32{0x5e9efc39: 15, 0x5f9c45b5: 31, 0xb2a23a10: 0x7fffffff, 0x5190c25c: 0x8000000f, 0x58d5ab82: last} {
		mustMix(t, flow, 0, mix)
		mustBucket(t, flow, 0, api.Buckets-1)
	}
}

// TestBucketsAllUsed puts flows that follow one another into buckets: each has its share.
func TestBucketsAllUsed(t *testing.T) {
	for _, seed := range []uint32{0, 9, 1 << 31, last} {
		var has [api.Buckets]int
		for flow := range uint32(16000) {
			b := Bucket(flow, seed)
			if b < 0 || b >= api.Buckets {
				t.Fatalf("Bucket(%d, %#x) = %d", flow, seed, b)
			}
			has[b]++
		}
		for b, n := range has {
			if n < 800 || n > 1200 {
				t.Errorf("seed %#x: %d flows of 16000 in bucket %d", seed, n, b)
			}
		}
	}
}

// Another call between changes nothing.
func TestNothingIsKept(t *testing.T) {
	for range 3 {
		mustMix(t, 5, 6, 0xdfb6d245)
		mustMix(t, 0, last, 0x2028884f)
	}
}

// FuzzHash holds both calls against what the chapter words.
func FuzzHash(f *testing.F) {
	f.Add(uint32(0), uint32(0))
	f.Add(uint32(last), uint32(1))
	f.Add(uint32(1<<31), uint32(1<<16))
	f.Fuzz(func(t *testing.T, flow, seed uint32) {
		mustMix(t, flow, seed, modelMix(flow, seed))
		mustMix(t, seed, flow, modelMix(flow, seed))
	})
}
