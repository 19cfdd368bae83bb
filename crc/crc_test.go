package crc

import (
	"bytes"
	"testing"
)

// exact is the sum of b reckoned another way: b's bits, each byte's lowest
// first, and eight zeros behind them, the first eight bits of it turned over,
// are a polynomial; what x^8 + x^2 + x + 1 leaves of it is turned over, and
// its highest power is the lowest bit.
func exact(b []byte) byte {
	l := make([]bool, 8*len(b)+8)
	for i := range 8 * len(b) {
		l[i] = b[i/8]&(1<<(i%8)) != 0
	}
	for i := range 8 {
		l[i] = !l[i]
	}
	for i := range 8 * len(b) {
		if l[i] {
			for _, k := range []int{0, 6, 7, 8} {
				l[i+k] = !l[i+k]
			}
		}
	}
	var sum byte
	for i, one := range l[8*len(b):] {
		if !one {
			sum |= 1 << i
		}
	}
	return sum
}

// many is n bytes of all kinds.
func many(n int) []byte {
	b := make([]byte, n)
	for i := range b {
		b[i] = byte(i*i*7 + i>>8 + 3)
	}
	return b
}

// P2.1

func TestSum(t *testing.T) {
	for _, x := range []struct {
		b    []byte
		want byte
	}{
		{nil, 0}, {[]byte{}, 0},
		{[]byte{0}, 0x30}, {[]byte{1}, 0xa1}, {[]byte{0x80}, 0xd0}, {[]byte{0xff}, 0xff},
		{[]byte{0, 0}, 0x14}, {[]byte("123456789"), 0x2f},
	} {
		if got := Sum(x.b); got != x.want {
			t.Errorf("Sum(%x) = %#x, want %#x", x.b, got, x.want)
		}
	}
}

func TestSumOfOneByteAndOfTwo(t *testing.T) {
	for c := range 256 {
		if b := []byte{byte(c)}; Sum(b) != exact(b) {
			t.Errorf("Sum(%x) = %#x, want %#x", b, Sum(b), exact(b))
		}
		for d := range 256 {
			if b := []byte{byte(c), byte(d)}; Sum(b) != exact(b) {
				t.Fatalf("Sum(%x) = %#x, want %#x", b, Sum(b), exact(b))
			}
		}
	}
}

func TestSumOfMany(t *testing.T) {
	for _, n := range []int{3, 4, 7, 8, 9, 15, 16, 17, 31, 32, 33, 127, 128, 255, 256, 257, 1500, 4095, 65535, 65536, 1 << 18} {
		for _, b := range [][]byte{many(n), make([]byte, n), bytes.Repeat([]byte{0xff}, n)} {
			if got, want := Sum(b), exact(b); got != want {
				t.Errorf("%d bytes, the first %#x: Sum = %#x, want %#x", n, b[0], got, want)
			}
		}
	}
}

func TestSumStaysWhatItIs(t *testing.T) {
	b := []byte{7, 200, 31}
	first := Sum(b)
	Sum([]byte{1, 2, 3, 4})
	Seal(b[:1])
	Fits(b)
	if got := Sum(b); got != first {
		t.Errorf("Sum = %#x at first, %#x later", first, got)
	}
}

func TestSeal(t *testing.T) {
	for _, x := range []struct{ b, want []byte }{
		{nil, []byte{0}}, {[]byte{}, []byte{0}},
		{[]byte{0}, []byte{0, 0x30}}, {[]byte{1}, []byte{1, 0xa1}}, {[]byte{0xff}, []byte{0xff, 0xff}},
		{[]byte{0, 0}, []byte{0, 0, 0x14}}, {[]byte("123456789"), []byte("123456789\x2f")},
	} {
		if got := Seal(x.b); !bytes.Equal(got, x.want) {
			t.Errorf("Seal(%x) = %x, want %x", x.b, got, x.want)
		}
	}
}

func TestFits(t *testing.T) {
	for _, x := range []struct {
		b    []byte
		want bool
	}{
		{nil, false}, {[]byte{}, false}, {[]byte{0}, true},
		{[]byte{0, 0x30}, true}, {[]byte{0x30, 0}, false}, {[]byte{1, 0xa1}, true}, {[]byte{0xff, 0xff}, true}, {[]byte{0, 0}, false},
		{[]byte{0, 0, 0x14}, true}, {[]byte{0x14, 0, 0}, false}, {[]byte{0, 0, 0x14, 0x4e}, false},
		{[]byte("123456789\x2f"), true}, {[]byte("123456789"), false}, {[]byte("123456798\x2f"), false}, {[]byte("12345678\x2f"), false},
		{[]byte("123456789\xd0"), false}, // the sum not turned over
		{[]byte("123456789\xf4"), false}, // the sum not turned round
	} {
		if got := Fits(x.b); got != x.want {
			t.Errorf("Fits(%x) = %v, want %v", x.b, got, x.want)
		}
	}
}

func TestFitsOfOneByteAndOfTwo(t *testing.T) {
	for c := range 256 {
		if got, want := Fits([]byte{byte(c)}), c == 0; got != want {
			t.Errorf("Fits(%x) = %v, want %v", c, got, want)
		}
		for d := range 256 {
			b := []byte{byte(c), byte(d)}
			if got, want := Fits(b), b[1] == exact(b[:1]); got != want {
				t.Fatalf("Fits(%x) = %v, want %v", b, got, want)
			}
		}
	}
}

func TestFitsOfSeal(t *testing.T) {
	for _, n := range []int{0, 1, 2, 3, 4, 8, 16, 100, 255, 256, 1500, 65535} {
		b := many(n)
		s := Seal(b)
		if len(s) != n+1 || !bytes.Equal(s[:n], b) || s[n] != exact(b) {
			t.Errorf("Seal of %d bytes isn't these and their sum", n)
		}
		if !Fits(s) || !Fits(Seal(s)) {
			t.Errorf("Seal of %d bytes, or Seal of it, doesn't fit", n)
		}
		for d := 1; d < 256; d++ {
			c := bytes.Clone(s)
			c[n] ^= byte(d)
			if Fits(c) {
				t.Errorf("%d bytes and a sum that is off by %#x fit", n, d)
			}
		}
	}
}

// One bit that is another, in any place, is always told.
func TestFitsNotWithABitTurned(t *testing.T) {
	for _, n := range []int{0, 1, 2, 3, 14, 40} {
		s := Seal(many(n))
		for i := range 8 * len(s) {
			c := bytes.Clone(s)
			c[i/8] ^= 1 << (i % 8)
			if Fits(c) {
				t.Errorf("%d bytes with bit %d turned fit", n, i)
			}
		}
	}
}

func TestHandedInIsLeftAlone(t *testing.T) {
	room := []byte{9, 8, 7, 6, 5, 4}
	want := bytes.Clone(room)
	b := room[1:3]
	Sum(b)
	Seal(b)
	Fits(b)
	if !bytes.Equal(room, want) {
		t.Errorf("handed in %v, now %v", want, room)
	}
}

// What lies behind the length is not read: another byte there changes nothing.
func TestBehindTheLengthIsNotRead(t *testing.T) {
	sealed := Seal([]byte{7, 200, 31})
	for _, behind := range []byte{0, 1, sealed[3], 0xff} {
		room := append(bytes.Clone(sealed), behind, behind)
		if !Fits(room[:4]) || Fits(room[:3]) || Fits(room[:0]) {
			t.Errorf("with %#x behind: Fits has changed", behind)
		}
		if Sum(room[:3]) != sealed[3] || !bytes.Equal(Seal(room[:3]), sealed) || Sum(room[:0]) != 0 {
			t.Errorf("with %#x behind: Sum or Seal has changed", behind)
		}
	}
}

func TestSealAnswersNewMemory(t *testing.T) {
	for _, n := range []int{0, 1, 2, 7, 8, 100} {
		in := append(many(n), 1, 2, 3)
		was, b := bytes.Clone(in), in[:n]
		first, second := Seal(b), Seal(b)
		keep := bytes.Clone(second)
		for i := range first[:cap(first)] {
			first[:cap(first)][i] ^= 0xff
		}
		_ = append(first, 0x55)
		if !bytes.Equal(in, was) || !bytes.Equal(second, keep) || !bytes.Equal(Seal(b), keep) {
			t.Errorf("%d bytes: written through an answer", n)
		}
		clear(in)
		if !bytes.Equal(second, keep) {
			t.Errorf("%d bytes: an answer follows what was handed in", n)
		}
	}
}
