package act

import (
	"bytes"
	"math"
	"testing"

	"muezzin/api"
)

var (
	to   = api.Addr{0x10, 0x11, 0x12, 0x13, 0x14, 0x15}
	from = api.Addr{0x30, 0x31, 0x32, 0x33, 0x34, 0x35}
	bss  = api.Addr{0x50, 0x51, 0x52, 0x53, 0x54, 0x55}
)

// The frames that the tests start from: their addresses differ in each byte.

func plainAsk() api.Add {
	return api.Add{To: to, From: from, BSS: bss, Token: 0x9a, TID: 5, Size: 0x2c3, Timeout: 0x6789, Seq: 0xdef}
}

func plainAnswer() api.Add {
	return api.Add{To: to, From: from, BSS: bss, Answer: true, Token: 0x9b, TID: 6, Size: 0x135, Timeout: 0x789a, Status: 0xb1c2}
}

func plainDel() api.Del {
	return api.Del{To: to, From: from, BSS: bss, Mine: true, TID: 5, Reason: 0x4321}
}

// The same as bytes, written out.

func headBytes() []byte {
	return []byte{
		0xd0, 0, 0, 0,
		0x10, 0x11, 0x12, 0x13, 0x14, 0x15,
		0x30, 0x31, 0x32, 0x33, 0x34, 0x35,
		0x50, 0x51, 0x52, 0x53, 0x54, 0x55,
		0, 0, 3,
	}
}

func bytesOfAsk() []byte {
	return append(headBytes(), 0, 0x9a, 0xd6, 0xb0, 0x89, 0x67, 0xf0, 0xde)
}

func bytesOfAnswer() []byte {
	return append(headBytes(), 1, 0x9b, 0xc2, 0xb1, 0x5a, 0x4d, 0x9a, 0x78)
}

func bytesOfDel() []byte { return append(headBytes(), 2, 0, 0x58, 0x21, 0x43) }

// zeroHead is what a frame without addresses begins with.
func zeroHead() []byte { return append(append([]byte{0xd0}, make([]byte, 23)...), 3) }

// frame is one of the three, so that what holds for all of them is asked of all of them.
type frame struct {
	name string
	// plain is the bytes of it.
	plain func() []byte
	// kinds tells whether its Read call takes a frame of that kind.
	kinds func(kind byte) bool
	// again is Bytes of Read of b (nothing, where Read has an error), and whether Read answered the zero value.
	again func(b []byte) (out []byte, zero bool, err error)
	// fits tells whether that byte may stand there (behind its kind), the others being those of plain.
	fits func(at int, c byte) bool
}

// back is Bytes of Read of b.
func back[F comparable](read func([]byte) (F, error), write func(F) ([]byte, error)) func([]byte) ([]byte, bool, error) {
	return func(b []byte) ([]byte, bool, error) {
		var none F
		f, err := read(b)
		if err != nil {
			return nil, f == none, err
		}
		out, err := write(f)
		return out, f == none, err
	}
}

// trafficFits tells whether that byte may be the first one of an Add's identifier and size.
func trafficFits(c byte) bool { return c&3 == 2 && c&0x20 == 0 }

func askFits(at int, c byte) bool {
	switch at {
	case 27:
		return trafficFits(c)
	case 31:
		return c&0xf == 0
	}
	return true
}

func answerFits(at int, c byte) bool { return at != 29 || trafficFits(c) }

func delFits(at int, c byte) bool {
	switch at {
	case 26:
		return c == 0
	case 27:
		return c&0x87 == 0
	}
	return true
}

func frames() []frame {
	add, del := back(ReadAdd, AddBytes), back(ReadDel, DelBytes)
	isAdd, isDel := func(k byte) bool { return k < 2 }, func(k byte) bool { return k == 2 }
	return []frame{
		{"Add that asks", bytesOfAsk, isAdd, add, askFits},
		{"Add that answers", bytesOfAnswer, isAdd, add, answerFits},
		{"Del", bytesOfDel, isDel, del, delFits},
	}
}

// mustRefuse fails unless Read of b answers that error, and nothing beside it.
func (f frame) mustRefuse(t *testing.T, b []byte, want error) {
	t.Helper()
	if _, zero, err := f.again(b); err != want || !zero {
		t.Errorf("%s: Read(%x): %v, its zero value %v, want the error %v", f.name, b, err, zero, want)
	}
}

// mustTake fails unless Read takes b, and Bytes of its answer is b.
func (f frame) mustTake(t *testing.T, b []byte) {
	t.Helper()
	if got, _, err := f.again(b); err != nil || !bytes.Equal(got, b) {
		t.Errorf("%s: Bytes of Read of %x is %x, %v", f.name, b, got, err)
	}
}

// with is b with other bytes from a place on, in memory of its own.
func with(b []byte, at int, c ...byte) []byte {
	b = bytes.Clone(b)
	copy(b[at:], c)
	return b
}

// low and high are the two bytes of a number.

func low(n int) byte  { return byte(n % 256) }
func high(n int) byte { return byte(n / 256) }

// mustBe fails unless Bytes of f is b and Read of b is f.
func mustBe[F comparable](t *testing.T, f F, b []byte, write func(F) ([]byte, error), read func([]byte) (F, error)) {
	t.Helper()
	if got, err := write(f); err != nil || !bytes.Equal(got, b) {
		t.Errorf("Bytes(%v) = %x, %v, want %x", f, got, err, b)
	}
	if got, err := read(b); err != nil || got != f {
		t.Errorf("Read(%x) = %v, %v, want %v", b, got, err, f)
	}
}

func mustBeAdd(t *testing.T, f api.Add, b []byte) {
	t.Helper()
	mustBe(t, f, b, AddBytes, ReadAdd)
}

func mustBeDel(t *testing.T, f api.Del, b []byte) {
	t.Helper()
	mustBe(t, f, b, DelBytes, ReadDel)
}

// P5.1: the Bytes calls, and what the Read calls take

func TestOrdinaryFrames(t *testing.T) {
	mustBeAdd(t, plainAsk(), bytesOfAsk())
	mustBeAdd(t, plainAnswer(), bytesOfAnswer())
	mustBeDel(t, plainDel(), bytesOfDel())
	f := plainDel()
	f.Mine = false
	mustBeDel(t, f, with(bytesOfDel(), 27, 0x50))
}

func TestFramesAtTheirEdges(t *testing.T) {
	mustBeAdd(t, api.Add{}, append(zeroHead(), 0, 0, 2, 0, 0, 0, 0, 0))
	mustBeAdd(t, api.Add{Answer: true}, append(zeroHead(), 1, 0, 0, 0, 2, 0, 0, 0))
	mustBeDel(t, api.Del{}, append(zeroHead(), 2, 0, 0, 0, 0))
	mustBeDel(t, api.Del{Mine: true}, append(zeroHead(), 2, 0, 8, 0, 0))
	mustBeAdd(t, api.Add{Token: 255, TID: 7, Size: 1023, Timeout: 65535, Seq: 4095},
		append(zeroHead(), 0, 0xff, 0xde, 0xff, 0xff, 0xff, 0xf0, 0xff))
	mustBeAdd(t, api.Add{Answer: true, Token: 255, TID: 7, Size: 1023, Timeout: 65535, Status: 65535},
		append(zeroHead(), 1, 0xff, 0xff, 0xff, 0xde, 0xff, 0xff, 0xff))
	mustBeDel(t, api.Del{TID: 7, Reason: 65535}, append(zeroHead(), 2, 0, 0x70, 0xff, 0xff))
	mustBeDel(t, api.Del{Mine: true, TID: 7, Reason: 65535}, append(zeroHead(), 2, 0, 0x78, 0xff, 0xff))
}

func TestLengths(t *testing.T) {
	for _, f := range []api.Add{{}, {Answer: true}, plainAsk(), plainAnswer()} {
		if b, err := AddBytes(f); len(b) != 33 || err != nil {
			t.Errorf("Bytes(%v): %d bytes, %v, want 33", f, len(b), err)
		}
	}
	for _, f := range []api.Del{{}, plainDel()} {
		if b, err := DelBytes(f); len(b) != 30 || err != nil {
			t.Errorf("Bytes(%v): %d bytes, %v, want 30", f, len(b), err)
		}
	}
}

func TestEachToken(t *testing.T) {
	for n := range 256 {
		ask, answer := plainAsk(), plainAnswer()
		ask.Token, answer.Token = n, n
		mustBeAdd(t, ask, with(bytesOfAsk(), 26, byte(n)))
		mustBeAdd(t, answer, with(bytesOfAnswer(), 26, byte(n)))
	}
}

func TestEachTIDAndSize(t *testing.T) {
	for tid := range 8 {
		for size := range 1024 {
			ask, answer := plainAsk(), plainAnswer()
			ask.TID, answer.TID = tid, tid
			ask.Size, answer.Size = size, size
			n := 2 + tid*4 + size*64
			mustBeAdd(t, ask, with(bytesOfAsk(), 27, low(n), high(n)))
			mustBeAdd(t, answer, with(bytesOfAnswer(), 29, low(n), high(n)))
		}
	}
}

func TestEachSeq(t *testing.T) {
	for n := range 4096 {
		f := plainAsk()
		f.Seq = n
		mustBeAdd(t, f, with(bytesOfAsk(), 31, low(n*16), high(n*16)))
	}
}

func TestEachTimeoutStatusAndReason(t *testing.T) {
	for n := range 65536 {
		ask, answer := plainAsk(), plainAnswer()
		ask.Timeout, answer.Timeout = n, n
		mustBeAdd(t, ask, with(bytesOfAsk(), 29, low(n), high(n)))
		mustBeAdd(t, answer, with(bytesOfAnswer(), 31, low(n), high(n)))
		answer = plainAnswer()
		answer.Status = n
		mustBeAdd(t, answer, with(bytesOfAnswer(), 27, low(n), high(n)))
		del := plainDel()
		del.Reason = n
		mustBeDel(t, del, with(bytesOfDel(), 28, low(n), high(n)))
	}
}

func TestEachTIDOfADel(t *testing.T) {
	for tid := range 8 {
		f := plainDel()
		f.TID = tid
		mustBeDel(t, f, with(bytesOfDel(), 27, byte(tid*16+8)))
		f.Mine = false
		mustBeDel(t, f, with(bytesOfDel(), 27, byte(tid*16)))
	}
}

func TestEachByteOfTheAddresses(t *testing.T) {
	for i := range 18 {
		for _, c := range []byte{0, 1, 0x7f, 0x80, 0xff} {
			a := [3]api.Addr{to, from, bss}
			a[i/6][i%6] = c
			ask, answer, del := plainAsk(), plainAnswer(), plainDel()
			ask.To, ask.From, ask.BSS = a[0], a[1], a[2]
			answer.To, answer.From, answer.BSS = a[0], a[1], a[2]
			del.To, del.From, del.BSS = a[0], a[1], a[2]
			mustBeAdd(t, ask, with(bytesOfAsk(), 4+i, c))
			mustBeAdd(t, answer, with(bytesOfAnswer(), 4+i, c))
			mustBeDel(t, del, with(bytesOfDel(), 4+i, c))
		}
	}
}

// P5.1: what the Bytes calls refuse

// outside is numbers that are not 0 to most, those among them that two bytes or a step of the number would hide.
func outside(most int) []int {
	l := []int{-1, -2, -most, -most - 1, -4096, -65536, most + 1, most + 2, 2*most + 1, 2*most + 2, 65536, 65537}
	return append(l, 1<<16+most, 1<<32, 1<<32+most, 1<<54, 1<<58, 1<<60, 1<<62, -1<<52, -1<<60, math.MinInt, math.MaxInt)
}

func mustBeNoBytes(t *testing.T, name string, n int, b []byte, err error) {
	t.Helper()
	if err != api.ErrRange || len(b) > 0 {
		t.Errorf("%s %d: %x, %v, want the error %v", name, n, b, err, api.ErrRange)
	}
}

// mustRefuseAdds fails unless both Adds are refused with each number of l in the field of which set is told.
func mustRefuseAdds(t *testing.T, name string, l []int, set func(f *api.Add, n int)) {
	t.Helper()
	for _, n := range l {
		for _, f := range []api.Add{plainAsk(), plainAnswer(), {}, {Answer: true}} {
			set(&f, n)
			b, err := AddBytes(f)
			mustBeNoBytes(t, name, n, b, err)
		}
	}
}

func TestBytesOfAddsThatMayNotBe(t *testing.T) {
	mustRefuseAdds(t, "Token", outside(255), func(f *api.Add, n int) { f.Token = n })
	mustRefuseAdds(t, "TID", append(outside(7), 9, 15), func(f *api.Add, n int) { f.TID = n })
	mustRefuseAdds(t, "Size", outside(1023), func(f *api.Add, n int) { f.Size = n })
	mustRefuseAdds(t, "Timeout", outside(65535), func(f *api.Add, n int) { f.Timeout = n })
	mustRefuseAdds(t, "Status", outside(65535), func(f *api.Add, n int) { f.Status = n })
	mustRefuseAdds(t, "Seq", outside(4095), func(f *api.Add, n int) { f.Seq = n })
	mustRefuseAdds(t, "all", []int{-1, 1 << 20}, func(f *api.Add, n int) {
		f.Token, f.TID, f.Size, f.Timeout, f.Status, f.Seq = n, n, n, n, n, n
	})
}

func TestBytesOfAddsWithWhatTheOtherHas(t *testing.T) {
	for _, n := range []int{1, 2, 16, 255, 256, 4095, 65535} {
		ask := plainAsk()
		ask.Status = n
		b, err := AddBytes(ask)
		mustBeNoBytes(t, "an Add that asks: Status", n, b, err)
		b, err = AddBytes(api.Add{Status: n})
		mustBeNoBytes(t, "an Add that asks: Status alone", n, b, err)
	}
	for _, n := range []int{1, 2, 16, 255, 256, 4095} {
		answer := plainAnswer()
		answer.Seq = n
		b, err := AddBytes(answer)
		mustBeNoBytes(t, "an Add that answers: Seq", n, b, err)
		b, err = AddBytes(api.Add{Answer: true, Seq: n})
		mustBeNoBytes(t, "an Add that answers: Seq alone", n, b, err)
	}
}

func TestBytesOfDelsThatMayNotBe(t *testing.T) {
	for _, mine := range []bool{false, true} {
		for _, n := range append(outside(7), 9, 15) {
			f := plainDel()
			f.Mine, f.TID = mine, n
			b, err := DelBytes(f)
			mustBeNoBytes(t, "TID", n, b, err)
		}
		for _, n := range outside(65535) {
			f := plainDel()
			f.Mine, f.Reason = mine, n
			b, err := DelBytes(f)
			mustBeNoBytes(t, "Reason", n, b, err)
		}
		b, err := DelBytes(api.Del{Mine: mine, TID: 8, Reason: -1})
		mustBeNoBytes(t, "both", 0, b, err)
	}
}

// P5.1: what the Read calls refuse

func TestReadOfWhatEndsTooEarly(t *testing.T) {
	for _, f := range frames() {
		f.mustRefuse(t, nil, api.ErrEnd)
		f.mustRefuse(t, []byte{}, api.ErrEnd)
		for n := range f.plain() {
			f.mustRefuse(t, f.plain()[:n], api.ErrEnd)
		}
		// Before there are 26 bytes, nothing is asked of them.
		for n := range 26 {
			f.mustRefuse(t, make([]byte, n), api.ErrEnd)
			f.mustRefuse(t, bytes.Repeat([]byte{0xff}, n), api.ErrEnd)
		}
	}
}

// lengths is b of many lengths: from 26 on, and past its end.
func lengths(b []byte) [][]byte {
	var l [][]byte
	long := append(bytes.Clone(b), make([]byte, 40)...)
	for n := 26; n <= len(long); n++ {
		l = append(l, long[:n:n])
	}
	return l
}

func TestReadOfAnotherKind(t *testing.T) {
	for _, f := range frames() {
		for c := range 256 {
			for _, at := range []int{0, 24, 25} {
				same := byte(c) == f.plain()[at] || at == 25 && f.kinds(byte(c))
				for _, b := range lengths(with(f.plain(), at, byte(c))) {
					if !same {
						f.mustRefuse(t, b, api.ErrKind)
					}
				}
			}
		}
	}
}

func TestReadOfTheOthersFrames(t *testing.T) {
	for _, b := range lengths(bytesOfDel()) {
		if got, err := ReadAdd(b); got != (api.Add{}) || err != api.ErrKind {
			t.Errorf("ReadAdd(%x) = %v, %v, want the error %v", b, got, err, api.ErrKind)
		}
	}
	for _, b := range append(lengths(bytesOfAsk()), lengths(bytesOfAnswer())...) {
		if got, err := ReadDel(b); got != (api.Del{}) || err != api.ErrKind {
			t.Errorf("ReadDel(%x) = %v, %v, want the error %v", b, got, err, api.ErrKind)
		}
	}
}

func TestReadOfWhatGoesOn(t *testing.T) {
	for _, f := range frames() {
		for _, n := range []int{1, 2, 3, 4, 8, 100, 256, 65536} {
			f.mustRefuse(t, append(f.plain(), make([]byte, n)...), api.ErrShape)
		}
	}
}

// In each place each byte: it is taken and written again, or it is of another shape.
func TestReadOfEachByte(t *testing.T) {
	for _, f := range frames() {
		for at := range f.plain() {
			if at == 0 || at == 24 || at == 25 {
				continue
			}
			for c := range 256 {
				b := with(f.plain(), at, byte(c))
				blank := at >= 1 && at <= 3 || at == 22 || at == 23
				if blank && c != 0 || !f.fits(at, byte(c)) {
					f.mustRefuse(t, b, api.ErrShape)
				} else {
					f.mustTake(t, b)
				}
			}
		}
	}
}

// All that can stand in the two bytes of an identifier.
func TestReadOfEachTraffic(t *testing.T) {
	ask, answer, del := frames()[0], frames()[1], frames()[2]
	for n := range 65536 {
		b, c, d := with(bytesOfAsk(), 27, low(n), high(n)), with(bytesOfAnswer(), 29, low(n), high(n)), with(bytesOfDel(), 26, low(n), high(n))
		if n%4 == 2 && n/4%16 < 8 {
			f, g := plainAsk(), plainAnswer()
			f.TID, f.Size = n/4%16, n/64
			g.TID, g.Size = n/4%16, n/64
			mustBeAdd(t, f, b)
			mustBeAdd(t, g, c)
		} else {
			ask.mustRefuse(t, b, api.ErrShape)
			answer.mustRefuse(t, c, api.ErrShape)
		}
		if n%2048 == 0 && n/4096 < 8 {
			f := plainDel()
			f.TID, f.Mine = n/4096, n/2048%2 == 1
			mustBeDel(t, f, d)
		} else {
			del.mustRefuse(t, d, api.ErrShape)
		}
	}
}

// All that can stand in the two bytes of a number.
func TestReadOfEachSeq(t *testing.T) {
	ask := frames()[0]
	for n := range 65536 {
		b := with(bytesOfAsk(), 31, low(n), high(n))
		if n%16 == 0 {
			f := plainAsk()
			f.Seq = n / 16
			mustBeAdd(t, f, b)
		} else {
			ask.mustRefuse(t, b, api.ErrShape)
		}
	}
}

// Where several errors hold, the one that is named first is answered.
func TestOrderOfErrors(t *testing.T) {
	for _, f := range frames() {
		n := len(f.plain())
		for _, at := range []int{1, 2, 3, 22, 23} {
			b := with(f.plain(), at, 1)
			f.mustRefuse(t, b, api.ErrShape)
			f.mustRefuse(t, append(bytes.Clone(b), 0), api.ErrShape)
			f.mustRefuse(t, b[:n-1], api.ErrEnd)
			f.mustRefuse(t, b[:26], api.ErrEnd)
			f.mustRefuse(t, b[:25], api.ErrEnd)
			for _, kind := range []int{0, 24, 25} {
				c := with(b, kind, 0x77)
				f.mustRefuse(t, c[:25], api.ErrEnd)
				f.mustRefuse(t, c[:26], api.ErrKind)
				f.mustRefuse(t, c[:n-1], api.ErrKind)
				f.mustRefuse(t, c, api.ErrKind)
				f.mustRefuse(t, append(c, 0), api.ErrKind)
			}
		}
	}
}

// P5.2

func TestReadOfBytes(t *testing.T) {
	for i := range 1 << 14 {
		f := api.Add{To: to, From: from, BSS: bss, Token: i * 37 % 256, TID: i % 8, Size: i * 619 % 1024, Timeout: i * 40503 % 65536}
		f.To[i%6], f.From[i%5], f.BSS[i%3] = byte(i), byte(i*3), byte(i*7)
		if i%3 == 0 {
			f.Answer, f.Status = true, i*30011%65536
		} else {
			f.Seq = i * 2531 % 4096
		}
		if b, err := AddBytes(f); err != nil || len(b) != 33 {
			t.Fatalf("Bytes(%v): %x, %v", f, b, err)
		} else if got, err := ReadAdd(b); err != nil || got != f {
			t.Fatalf("Read of Bytes of %v is %v, %v", f, got, err)
		}
		d := api.Del{To: f.To, From: f.From, BSS: f.BSS, Mine: i%5 == 0, TID: f.TID, Reason: f.Timeout}
		if b, err := DelBytes(d); err != nil || len(b) != 30 {
			t.Fatalf("Bytes(%v): %x, %v", d, b, err)
		} else if got, err := ReadDel(b); err != nil || got != d {
			t.Fatalf("Read of Bytes of %v is %v, %v", d, got, err)
		}
	}
}

// What holds everywhere: memory.

func TestHandedInIsLeftAlone(t *testing.T) {
	for _, f := range frames() {
		room := append(f.plain(), 9, 8, 7)
		was, n := bytes.Clone(room), len(room)-3
		for _, size := range []int{0, 25, 26, n - 1, n, n + 1} {
			f.again(room[:size])
		}
		if !bytes.Equal(room, was) {
			t.Errorf("%s: handed in %v, now %v", f.name, was, room)
		}
	}
}

// What lies behind the length is not read: another byte there changes nothing.
func TestBehindTheLengthIsNotRead(t *testing.T) {
	for _, f := range frames() {
		for _, behind := range []byte{0, 1, 0xff} {
			room := append(f.plain(), behind, behind)
			n := len(room) - 2
			f.mustTake(t, room[:n])
			for size := range n {
				f.mustRefuse(t, room[:size], api.ErrEnd)
			}
		}
	}
}

func TestBytesAnswersNewMemory(t *testing.T) {
	for _, f := range frames() {
		first, _, _ := f.again(f.plain())
		second, _, _ := f.again(f.plain())
		for i := range first[:cap(first)] {
			first[:cap(first)][i] ^= 0xff
		}
		_ = append(first, 0x55)
		third, _, _ := f.again(f.plain())
		if !bytes.Equal(second, f.plain()) || !bytes.Equal(third, f.plain()) {
			t.Errorf("%s: written through an answer", f.name)
		}
	}
}

// FuzzRead holds the Read calls against the Bytes calls: what one of them takes, Bytes writes, and the other one does not take.
func FuzzRead(f *testing.F) {
	for _, x := range frames() {
		f.Add(x.plain())
	}
	f.Add([]byte{})
	f.Fuzz(func(t *testing.T, b []byte) {
		taken := 0
		for _, x := range frames()[1:] {
			got, _, err := x.again(b)
			if err != nil {
				continue
			}
			taken++
			if !bytes.Equal(got, b) {
				t.Errorf("%s: Bytes of Read of %x is %x", x.name, b, got)
			}
		}
		if taken > 1 {
			t.Errorf("both Read calls take %x", b)
		}
	})
}
