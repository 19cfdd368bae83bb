package qos

import (
	"bytes"
	"math"
	"testing"

	"muezzin/api"
)

var (
	to   = api.Addr{0x10, 0x11, 0x12, 0x13, 0x14, 0x15}
	bss  = api.Addr{0x20, 0x21, 0x22, 0x23, 0x24, 0x25}
	from = api.Addr{0x30, 0x31, 0x32, 0x33, 0x34, 0x35}
)

// plain is a frame with three addresses that differ in each byte.
func plain() api.QoS {
	return api.QoS{To: to, BSS: bss, From: from, TID: 6, Seq: 0xabc, Body: []byte{1, 2, 3}}
}

// bytesOfPlain is plain as bytes, written out.
func bytesOfPlain() []byte {
	return []byte{
		0x88, 2, 0, 0,
		0x10, 0x11, 0x12, 0x13, 0x14, 0x15,
		0x20, 0x21, 0x22, 0x23, 0x24, 0x25,
		0x30, 0x31, 0x32, 0x33, 0x34, 0x35,
		0xc0, 0xab, 6, 0,
		1, 2, 3,
	}
}

// with is bytesOfPlain with another byte at a place.
func with(at int, c byte) []byte {
	b := bytesOfPlain()
	b[at] = c
	return b
}

// many is n bytes of all kinds.
func many(n int) []byte {
	b := make([]byte, n)
	for i := range b {
		b[i] = byte(i*i*7 + i>>8 + 3)
	}
	return b
}

func same(a, b api.QoS) bool {
	return a.To == b.To && a.BSS == b.BSS && a.From == b.From && a.TID == b.TID && a.Seq == b.Seq &&
		a.Retry == b.Retry && a.More == b.More && a.EOSP == b.EOSP && bytes.Equal(a.Body, b.Body)
}

// mustBe fails unless Bytes of f is b and Read of b is f.
func mustBe(t *testing.T, f api.QoS, b []byte) {
	t.Helper()
	if got, err := Bytes(f); err != nil || !bytes.Equal(got, b) {
		t.Errorf("Bytes(%v) = %x, %v, want %x", f, got, err, b)
	}
	if got, err := Read(b); err != nil || !same(got, f) {
		t.Errorf("Read(%x) = %v, %v, want %v", b, got, err, f)
	}
}

// mustRefuse fails unless Read of b answers that error, and nothing beside it.
func mustRefuse(t *testing.T, b []byte, want error) {
	t.Helper()
	if got, err := Read(b); err != want || !same(got, api.QoS{}) {
		t.Errorf("Read(%x) = %v, %v, want the error %v", b, got, err, want)
	}
}

// P3.1

func TestOrdinaryFrames(t *testing.T) {
	mustBe(t, plain(), bytesOfPlain())
	mustBe(t, api.QoS{}, append([]byte{0x88, 2}, make([]byte, 24)...))
	f := api.QoS{To: from, BSS: to, From: bss, TID: 5, Seq: 0x123, Retry: true, More: true, EOSP: true, Body: []byte("body")}
	mustBe(t, f, []byte{
		0x88, 42, 0, 0,
		0x30, 0x31, 0x32, 0x33, 0x34, 0x35,
		0x10, 0x11, 0x12, 0x13, 0x14, 0x15,
		0x20, 0x21, 0x22, 0x23, 0x24, 0x25,
		0x30, 0x12, 21, 0,
		'b', 'o', 'd', 'y',
	})
}

func TestEachFlag(t *testing.T) {
	for _, x := range []struct {
		retry, more, eosp bool
		flags, traffic    byte
	}{
		{false, false, false, 2, 6}, {true, false, false, 10, 6}, {false, true, false, 34, 6}, {false, false, true, 2, 22},
		{true, true, false, 42, 6}, {true, false, true, 10, 22}, {false, true, true, 34, 22}, {true, true, true, 42, 22},
	} {
		f := plain()
		f.Retry, f.More, f.EOSP = x.retry, x.more, x.eosp
		b := with(1, x.flags)
		b[24] = x.traffic
		mustBe(t, f, b)
	}
}

func TestEachTID(t *testing.T) {
	for tid := range 8 {
		f := plain()
		f.TID = tid
		mustBe(t, f, with(24, byte(tid)))
		f.EOSP = true
		mustBe(t, f, with(24, byte(tid+16)))
	}
}

func TestEachSeq(t *testing.T) {
	for s := range 4096 {
		f := plain()
		f.Seq = s
		b := with(22, byte(s%16*16))
		b[23] = byte(s / 16)
		mustBe(t, f, b)
	}
}

func TestEachByteOfTheAddresses(t *testing.T) {
	for i := range 6 {
		for _, c := range []byte{0, 1, 0x7f, 0x80, 0xff} {
			f := plain()
			f.To[i] = c
			mustBe(t, f, with(4+i, c))
			f = plain()
			f.BSS[i] = c
			mustBe(t, f, with(10+i, c))
			f = plain()
			f.From[i] = c
			mustBe(t, f, with(16+i, c))
		}
	}
}

func TestBodies(t *testing.T) {
	for _, n := range []int{0, 1, 2, 25, 26, 27, 255, 256, 1498, 1499, 1500} {
		f := plain()
		f.Body = many(n)
		mustBe(t, f, append(bytesOfPlain()[:26], many(n)...))
	}
	f := plain()
	f.Body = nil
	mustBe(t, f, bytesOfPlain()[:26])
	f.Body = []byte{}
	mustBe(t, f, bytesOfPlain()[:26])
}

func TestBytesOfWhatMayNotBe(t *testing.T) {
	refuse := func(name string, f api.QoS) {
		if b, err := Bytes(f); err != api.ErrRange || len(b) > 0 {
			t.Errorf("%s: %x, %v, want the error %v", name, b, err, api.ErrRange)
		}
	}
	for _, tid := range []int{-1, -8, -256, -249, 8, 9, 15, 16, 22, 256, 262, 1 << 32, math.MinInt, math.MaxInt} {
		f := plain()
		f.TID = tid
		refuse("TID", f)
	}
	for _, s := range []int{-1, -4095, -4096, 4096, 4097, 65535, 65536, 1 << 32, math.MinInt, math.MaxInt} {
		f := plain()
		f.Seq = s
		refuse("Seq", f)
	}
	for _, n := range []int{1501, 1502, 1526, 1527, 65536, 1 << 20} {
		f := plain()
		f.Body = many(n)
		refuse("Body", f)
	}
	refuse("all", api.QoS{TID: 8, Seq: 4096, Body: many(1501)})
}

func TestReadOfWhatEndsTooEarly(t *testing.T) {
	mustRefuse(t, nil, api.ErrEnd)
	for n := range 26 {
		mustRefuse(t, bytesOfPlain()[:n], api.ErrEnd)
		mustRefuse(t, bytes.Repeat([]byte{0xff}, n), api.ErrEnd)
	}
}

func TestReadOfAnotherKind(t *testing.T) {
	for c := range 256 {
		if c != 0x88 {
			mustRefuse(t, with(0, byte(c)), api.ErrKind)
		}
	}
}

func TestReadOfAnotherShape(t *testing.T) {
	fits := map[int]func(c int) bool{
		1:  func(c int) bool { return c == 2 || c == 10 || c == 34 || c == 42 },
		2:  func(c int) bool { return c == 0 },
		3:  func(c int) bool { return c == 0 },
		22: func(c int) bool { return c%16 == 0 },
		23: func(c int) bool { return true },
		24: func(c int) bool { return c < 8 || c >= 16 && c < 24 },
		25: func(c int) bool { return c == 0 },
	}
	for at, may := range fits {
		for c := range 256 {
			b := with(at, byte(c))
			if !may(c) {
				mustRefuse(t, b, api.ErrShape)
				mustRefuse(t, b[:26], api.ErrShape)
			} else if f, err := Read(b); err != nil || !bytes.Equal(f.Body, []byte{1, 2, 3}) {
				t.Errorf("byte %d is %#x: %v, %v", at, c, f, err)
			}
		}
	}
}

func TestReadOfABodyTooLong(t *testing.T) {
	for _, n := range []int{1501, 1502, 1526, 65536, 1 << 20} {
		mustRefuse(t, append(bytesOfPlain()[:26], many(n)...), api.ErrRange)
	}
}

// Where several errors hold, the one that is named first is answered.
func TestOrderOfErrors(t *testing.T) {
	long := make([]byte, 1501)
	mustRefuse(t, with(0, 0x08)[:25], api.ErrEnd)
	mustRefuse(t, with(1, 0)[:25], api.ErrEnd)
	mustRefuse(t, append(with(0, 0x08), long...), api.ErrKind)
	for _, at := range []int{1, 2, 3, 22, 24, 25} {
		b := with(at, 0x49)
		mustRefuse(t, append(bytes.Clone(b), long...), api.ErrShape)
		b[0] = 0x48
		mustRefuse(t, b, api.ErrKind)
		mustRefuse(t, append(b, long...), api.ErrKind)
	}
}

// P3.2

func TestReadOfBytes(t *testing.T) {
	for i := range 8 * 8 * 64 {
		f := plain()
		f.Retry, f.More, f.EOSP = i&1 != 0, i&2 != 0, i&4 != 0
		f.TID, f.Seq = i>>3&7, i*613%4096
		f.To[i%6], f.BSS[i%5], f.From[i%4] = byte(i), byte(i*3), byte(i*5)
		f.Body = many(i * 37 % 1501)
		b, err := Bytes(f)
		if err != nil || len(b) != Len(len(f.Body)) {
			t.Fatalf("Bytes(%v): %d bytes, %v", f, len(b), err)
		}
		if got, err := Read(b); err != nil || !same(got, f) {
			t.Fatalf("Read of Bytes of %v is %v, %v", f, got, err)
		}
	}
}

// Whatever Read takes is just what Bytes writes: in each place of the head, each byte.
func TestBytesOfRead(t *testing.T) {
	for at := range 26 {
		for c := range 256 {
			b := with(at, byte(c))
			f, err := Read(b)
			if err != nil {
				continue
			}
			if got, err := Bytes(f); err != nil || !bytes.Equal(got, b) {
				t.Errorf("Bytes of Read of %x is %x, %v", b, got, err)
			}
		}
	}
}

func TestLen(t *testing.T) {
	for _, x := range []struct{ body, want int }{
		{0, 26}, {1, 27}, {100, 126}, {1499, 1525}, {1500, 1526}, {1501, 1527}, {1 << 30, 1<<30 + 26}, {math.MaxInt - 26, math.MaxInt},
		{-1, 26}, {-25, 26}, {-26, 26}, {-27, 26}, {-1500, 26}, {math.MinInt, 26},
	} {
		if got := Len(x.body); got != x.want {
			t.Errorf("Len(%d) = %d, want %d", x.body, got, x.want)
		}
	}
	if Head != 26 {
		t.Errorf("Head is %d", Head)
	}
}

// What holds everywhere: memory.

func TestHandedInIsLeftAlone(t *testing.T) {
	room := append(many(40), 9, 8, 7)
	want := bytes.Clone(room)
	f := plain()
	f.Body = room[5:40]
	Bytes(f)
	if !bytes.Equal(room, want) || len(f.Body) != 35 {
		t.Errorf("handed in %v, now %v", want, room)
	}
	room = append(bytesOfPlain(), 9, 8, 7)
	want = bytes.Clone(room)
	Read(room[:29])
	Read(room[:20])
	if !bytes.Equal(room, want) {
		t.Errorf("handed in %v, now %v", want, room)
	}
}

// What lies behind the length is not read: another byte there changes nothing.
func TestBehindTheLengthIsNotRead(t *testing.T) {
	for _, behind := range []byte{0, 1, 0xff} {
		room := append(bytesOfPlain(), behind, behind)
		mustBe(t, plain(), room[:29])
		mustRefuse(t, room[:25], api.ErrEnd)
		f := plain()
		f.Body = room[26:29]
		mustBe(t, f, bytesOfPlain())
	}
	mustBe(t, plain(), append(bytesOfPlain(), make([]byte, 1500)...)[:29])
}

func TestBytesAnswersNewMemory(t *testing.T) {
	for _, n := range []int{0, 1, 6, 100, 1500} {
		f := plain()
		f.Body = many(n)
		first, _ := Bytes(f)
		second, _ := Bytes(f)
		keep := bytes.Clone(second)
		for i := range first[:cap(first)] {
			first[:cap(first)][i] ^= 0xff
		}
		_ = append(first, 0x55)
		if !bytes.Equal(f.Body, many(n)) || !bytes.Equal(second, keep) {
			t.Errorf("body of %d bytes: written through an answer", n)
		}
		clear(f.Body)
		if !bytes.Equal(second, keep) {
			t.Errorf("body of %d bytes: an answer follows what was handed in", n)
		}
	}
}

func TestReadAnswersNewMemory(t *testing.T) {
	for _, n := range []int{0, 1, 6, 100, 1500} {
		room := append(append(bytesOfPlain()[:26], many(n)...), 1, 2, 3)
		was, b := bytes.Clone(room), room[:26+n]
		first, _ := Read(b)
		second, _ := Read(b)
		for i := range first.Body[:cap(first.Body)] {
			first.Body[:cap(first.Body)][i] ^= 0xff
		}
		_ = append(first.Body, 0x55)
		if !bytes.Equal(room, was) || !bytes.Equal(second.Body, many(n)) {
			t.Errorf("body of %d bytes: written through an answer", n)
		}
		clear(room)
		if !bytes.Equal(second.Body, many(n)) || second.To != to {
			t.Errorf("body of %d bytes: an answer follows what was handed in", n)
		}
	}
}

// FuzzRead holds Read's answer against Bytes: what it takes, Bytes writes.
func FuzzRead(f *testing.F) {
	f.Add(bytesOfPlain())
	f.Add([]byte{})
	f.Fuzz(func(t *testing.T, b []byte) {
		x, err := Read(b)
		if err != nil {
			return
		}
		if got, err := Bytes(x); err != nil || !bytes.Equal(got, b) {
			t.Errorf("Bytes of Read of %x is %x, %v", b, got, err)
		}
	})
}
