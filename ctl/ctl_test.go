package ctl

import (
	"bytes"
	"math"
	"testing"

	"muezzin/api"
)

var (
	to   = api.Addr{0x10, 0x11, 0x12, 0x13, 0x14, 0x15}
	from = api.Addr{0x30, 0x31, 0x32, 0x33, 0x34, 0x35}
)

// The frames that the tests start from: their addresses differ in each byte.

func plainBar() api.Bar { return api.Bar{To: to, From: from, TID: 6, Seq: 0xabc} }

func plainAck() api.Ack {
	return api.Ack{To: to, From: from, TID: 5, Seq: 0x123, Map: 0x8877665544332211}
}

func plainPoll() api.Poll { return api.Poll{AID: 0x321, BSS: to, From: from} }

// The same as bytes, written out.

func bytesOfBar() []byte {
	return []byte{
		0x84, 0, 0, 0,
		0x10, 0x11, 0x12, 0x13, 0x14, 0x15,
		0x30, 0x31, 0x32, 0x33, 0x34, 0x35,
		4, 0x60, 0xc0, 0xab,
	}
}

func bytesOfAck() []byte {
	return []byte{
		0x94, 0, 0, 0,
		0x10, 0x11, 0x12, 0x13, 0x14, 0x15,
		0x30, 0x31, 0x32, 0x33, 0x34, 0x35,
		4, 0x50, 0x30, 0x12,
		0x11, 0x22, 0x33, 0x44, 0x55, 0x66, 0x77, 0x88,
	}
}

func bytesOfPoll() []byte {
	return []byte{
		0xa4, 0, 0x21, 0xc3,
		0x10, 0x11, 0x12, 0x13, 0x14, 0x15,
		0x30, 0x31, 0x32, 0x33, 0x34, 0x35,
	}
}

// frame is one of the three kinds, so that what holds for all of them is asked of all of them.
type frame struct {
	name  string
	first byte
	plain func() []byte
	// again is Bytes of Read of b (nothing, where Read has an error), and whether Read answered the zero value.
	again func(b []byte) (out []byte, zero bool, err error)
	// fits tells whether that byte may stand there, the others being those of plain.
	fits func(at int, c byte) bool
}

// back is Bytes of Read of b.
func back[F comparable](read func([]byte) (F, error), write func(F) ([]byte, error)) func([]byte) ([]byte, bool, error) {
	return func(b []byte) ([]byte, bool, error) {
		var none F
		f, err := read(b)
		if err != nil {
			return nil, f == none, err
		}
		out, err := write(f)
		return out, f == none, err
	}
}

// windowFits is fits of a Bar and of an Ack.
func windowFits(at int, c byte) bool {
	switch at {
	case 1, 2, 3:
		return c == 0
	case 16:
		return c == 4
	case 17:
		return c%16 == 0 && c < 0x80
	case 18:
		return c%16 == 0
	}
	return true
}

// pollFits is fits of a Poll.
func pollFits(at int, c byte) bool {
	switch at {
	case 1:
		return c == 0
	case 3:
		return c >= 0xc0
	}
	return true
}

func frames() []frame {
	return []frame{
		{"Bar", 0x84, bytesOfBar, back(ReadBar, BarBytes), windowFits},
		{"Ack", 0x94, bytesOfAck, back(ReadAck, AckBytes), windowFits},
		{"Poll", 0xa4, bytesOfPoll, back(ReadPoll, PollBytes), pollFits},
	}
}

// mustRefuse fails unless Read of b answers that error, and nothing beside it.
func (f frame) mustRefuse(t *testing.T, b []byte, want error) {
	t.Helper()
	if _, zero, err := f.again(b); err != want || !zero {
		t.Errorf("%s: Read(%x): %v, its zero value %v, want the error %v", f.name, b, err, zero, want)
	}
}

// mustTake fails unless Read takes b, and Bytes of its answer is b.
func (f frame) mustTake(t *testing.T, b []byte) {
	t.Helper()
	if got, _, err := f.again(b); err != nil || !bytes.Equal(got, b) {
		t.Errorf("%s: Bytes of Read of %x is %x, %v", f.name, b, got, err)
	}
}

// with is b with another byte at a place, in memory of its own.
func with(b []byte, at int, c byte) []byte {
	b = bytes.Clone(b)
	b[at] = c
	return b
}

// mustBe fails unless Bytes of f is b and Read of b is f.
func mustBe[F comparable](t *testing.T, f F, b []byte, write func(F) ([]byte, error), read func([]byte) (F, error)) {
	t.Helper()
	if got, err := write(f); err != nil || !bytes.Equal(got, b) {
		t.Errorf("Bytes(%v) = %x, %v, want %x", f, got, err, b)
	}
	if got, err := read(b); err != nil || got != f {
		t.Errorf("Read(%x) = %v, %v, want %v", b, got, err, f)
	}
}

func mustBeBar(t *testing.T, f api.Bar, b []byte) {
	t.Helper()
	mustBe(t, f, b, BarBytes, ReadBar)
}

func mustBeAck(t *testing.T, f api.Ack, b []byte) {
	t.Helper()
	mustBe(t, f, b, AckBytes, ReadAck)
}

func mustBePoll(t *testing.T, f api.Poll, b []byte) {
	t.Helper()
	mustBe(t, f, b, PollBytes, ReadPoll)
}

// P4.1: the Bytes calls, and what the Read calls take

func TestOrdinaryFrames(t *testing.T) {
	mustBeBar(t, plainBar(), bytesOfBar())
	mustBeBar(t, api.Bar{}, append(append([]byte{0x84}, make([]byte, 15)...), 4, 0, 0, 0))
	mustBeBar(t, api.Bar{To: from, From: to, TID: 7, Seq: 4095}, []byte{
		0x84, 0, 0, 0,
		0x30, 0x31, 0x32, 0x33, 0x34, 0x35,
		0x10, 0x11, 0x12, 0x13, 0x14, 0x15,
		4, 0x70, 0xf0, 0xff,
	})
	mustBeAck(t, plainAck(), bytesOfAck())
	mustBeAck(t, api.Ack{}, append(append(append([]byte{0x94}, make([]byte, 15)...), 4), make([]byte, 11)...))
	mustBeAck(t, api.Ack{To: from, From: to, TID: 7, Seq: 4095, Map: math.MaxUint64}, []byte{
		0x94, 0, 0, 0,
		0x30, 0x31, 0x32, 0x33, 0x34, 0x35,
		0x10, 0x11, 0x12, 0x13, 0x14, 0x15,
		4, 0x70, 0xf0, 0xff,
		0xff, 0xff, 0xff, 0xff, 0xff, 0xff, 0xff, 0xff,
	})
	mustBePoll(t, plainPoll(), bytesOfPoll())
	mustBePoll(t, api.Poll{AID: 1}, append([]byte{0xa4, 0, 1, 0xc0}, make([]byte, 12)...))
	mustBePoll(t, api.Poll{AID: 2007, BSS: from, From: to}, []byte{
		0xa4, 0, 0xd7, 0xc7,
		0x30, 0x31, 0x32, 0x33, 0x34, 0x35,
		0x10, 0x11, 0x12, 0x13, 0x14, 0x15,
	})
}

func TestEachTID(t *testing.T) {
	for tid := range 8 {
		bar, ack := plainBar(), plainAck()
		bar.TID, ack.TID = tid, tid
		mustBeBar(t, bar, with(bytesOfBar(), 17, byte(tid*16)))
		mustBeAck(t, ack, with(bytesOfAck(), 17, byte(tid*16)))
	}
}

func TestEachSeq(t *testing.T) {
	for s := range 4096 {
		bar, ack := plainBar(), plainAck()
		bar.Seq, ack.Seq = s, s
		low, high := byte(s%16*16), byte(s/16)
		mustBeBar(t, bar, with(with(bytesOfBar(), 18, low), 19, high))
		mustBeAck(t, ack, with(with(bytesOfAck(), 18, low), 19, high))
	}
}

func TestEachBitOfTheMap(t *testing.T) {
	for i := range 64 {
		f := plainAck()
		f.Map = 1 << i
		b := append(bytesOfAck()[:20], make([]byte, 8)...)
		b[20+i/8] = 1 << (i % 8)
		mustBeAck(t, f, b)
		f.Map = ^f.Map
		for j := 20; j < 28; j++ {
			b[j] ^= 0xff
		}
		mustBeAck(t, f, b)
	}
}

func TestEachAID(t *testing.T) {
	for aid := 1; aid <= 2007; aid++ {
		f := plainPoll()
		f.AID = aid
		mustBePoll(t, f, with(with(bytesOfPoll(), 2, byte(aid%256)), 3, byte(0xc0+aid/256)))
	}
}

func TestEachByteOfTheAddresses(t *testing.T) {
	for i := range 6 {
		for _, c := range []byte{0, 1, 0x7f, 0x80, 0xff} {
			bar := plainBar()
			bar.To[i] = c
			mustBeBar(t, bar, with(bytesOfBar(), 4+i, c))
			bar = plainBar()
			bar.From[i] = c
			mustBeBar(t, bar, with(bytesOfBar(), 10+i, c))
			ack := plainAck()
			ack.To[i] = c
			mustBeAck(t, ack, with(bytesOfAck(), 4+i, c))
			ack = plainAck()
			ack.From[i] = c
			mustBeAck(t, ack, with(bytesOfAck(), 10+i, c))
			poll := plainPoll()
			poll.BSS[i] = c
			mustBePoll(t, poll, with(bytesOfPoll(), 4+i, c))
			poll = plainPoll()
			poll.From[i] = c
			mustBePoll(t, poll, with(bytesOfPoll(), 10+i, c))
		}
	}
}

// P4.1: what the Bytes calls refuse

func mustBeNoBytes(t *testing.T, name string, n int, b []byte, err error) {
	t.Helper()
	if err != api.ErrRange || len(b) > 0 {
		t.Errorf("%s %d: %x, %v, want the error %v", name, n, b, err, api.ErrRange)
	}
}

func TestBytesOfWhatMayNotBe(t *testing.T) {
	refuse := func(name string, n int, bar api.Bar) {
		t.Helper()
		b, err := BarBytes(bar)
		mustBeNoBytes(t, "Bar: "+name, n, b, err)
		b, err = AckBytes(api.Ack{To: bar.To, From: bar.From, TID: bar.TID, Seq: bar.Seq, Map: 1})
		mustBeNoBytes(t, "Ack: "+name, n, b, err)
	}
	for _, n := range []int{-1, -8, -16, -256, 8, 9, 15, 16, 22, 256, 262, 1 << 32, 1 << 52, math.MinInt, math.MaxInt} {
		f := plainBar()
		f.TID = n
		refuse("TID", n, f)
	}
	for _, n := range []int{-1, -4095, -4096, 4096, 4097, 65535, 65536, 1 << 32, 1 << 60, math.MinInt, math.MaxInt} {
		f := plainBar()
		f.Seq = n
		refuse("Seq", n, f)
	}
	refuse("both", 0, api.Bar{TID: 8, Seq: 4096})
	for _, n := range []int{0, -1, -2007, -0xc000, 2008, 2047, 2048, 0x3fff, 0x4000, 0xc001, 65536, 65537, 1<<32 + 1, math.MinInt, math.MaxInt} {
		f := plainPoll()
		f.AID = n
		b, err := PollBytes(f)
		mustBeNoBytes(t, "Poll: AID", n, b, err)
	}
}

// P4.1: what the Read calls refuse

func TestReadOfAnotherKind(t *testing.T) {
	for _, f := range frames() {
		for c := range 256 {
			if byte(c) == f.first {
				continue
			}
			b := with(f.plain(), 0, byte(c))
			f.mustRefuse(t, b, api.ErrKind)
			f.mustRefuse(t, b[:1], api.ErrKind)
			f.mustRefuse(t, b[:len(b)-1], api.ErrKind)
			f.mustRefuse(t, append(b, 0), api.ErrKind)
		}
		for _, other := range frames() {
			if other.first != f.first {
				f.mustRefuse(t, other.plain(), api.ErrKind)
			}
		}
	}
}

func TestReadOfWhatEndsTooEarly(t *testing.T) {
	for _, f := range frames() {
		f.mustRefuse(t, nil, api.ErrEnd)
		f.mustRefuse(t, []byte{}, api.ErrEnd)
		for n := range f.plain() {
			f.mustRefuse(t, f.plain()[:n], api.ErrEnd)
			b := bytes.Repeat([]byte{0xff}, n+1)
			b[0] = f.first
			f.mustRefuse(t, b[:n], api.ErrEnd)
		}
	}
}

func TestReadOfWhatGoesOn(t *testing.T) {
	for _, f := range frames() {
		for _, n := range []int{1, 2, 4, 8, 12, 100, 256, 65536} {
			f.mustRefuse(t, append(f.plain(), make([]byte, n)...), api.ErrShape)
		}
	}
}

// In each place each byte: it is taken and written again, or it is of another shape (or of an AID that may not be).
func TestReadOfEachByte(t *testing.T) {
	for _, f := range frames() {
		for at := 1; at < len(f.plain()); at++ {
			for c := range 256 {
				b := with(f.plain(), at, byte(c))
				switch {
				case !f.fits(at, byte(c)):
					f.mustRefuse(t, b, api.ErrShape)
				case f.name == "Poll" && at == 3 && c > 0xc7:
					f.mustRefuse(t, b, api.ErrRange)
				default:
					f.mustTake(t, b)
				}
			}
		}
	}
}

// All that can stand at a Poll's number.
func TestReadOfEachAID(t *testing.T) {
	f := frames()[2]
	for n := range 65536 {
		b := with(with(bytesOfPoll(), 2, byte(n)), 3, byte(n>>8))
		switch {
		case n < 0xc000:
			f.mustRefuse(t, b, api.ErrShape)
		case n == 0xc000 || n > 0xc000+2007:
			f.mustRefuse(t, b, api.ErrRange)
		default:
			want := plainPoll()
			want.AID = n - 0xc000
			mustBePoll(t, want, b)
		}
	}
}

// Where several errors hold, the one that is named first is answered.
func TestOrderOfErrors(t *testing.T) {
	for _, f := range frames() {
		b := with(f.plain(), 1, 1)
		f.mustRefuse(t, b[:len(b)-1], api.ErrEnd)
		f.mustRefuse(t, append(bytes.Clone(b), 0), api.ErrShape)
		f.mustRefuse(t, with(b, 0, f.first+1), api.ErrKind)
	}
	poll := frames()[2]
	for _, n := range []int{0xc000, 0xc7d8, 0xffff} {
		b := with(with(bytesOfPoll(), 2, byte(n)), 3, byte(n>>8))
		poll.mustRefuse(t, b, api.ErrRange)
		poll.mustRefuse(t, with(b, 1, 1), api.ErrShape)
		poll.mustRefuse(t, append(bytes.Clone(b), 0), api.ErrShape)
		poll.mustRefuse(t, b[:15], api.ErrEnd)
		poll.mustRefuse(t, with(b, 0, 0x84), api.ErrKind)
	}
}

// P4.2

func TestReadOfBytes(t *testing.T) {
	for i := range 4096 {
		bar := api.Bar{To: to, From: from, TID: i % 8, Seq: i * 613 % 4096}
		bar.To[i%6], bar.From[i%5] = byte(i), byte(i*3)
		if b, err := BarBytes(bar); err != nil || len(b) != 20 {
			t.Fatalf("Bytes(%v): %x, %v", bar, b, err)
		} else if got, err := ReadBar(b); err != nil || got != bar {
			t.Fatalf("Read of Bytes of %v is %v, %v", bar, got, err)
		}
		ack := api.Ack{To: bar.From, From: bar.To, TID: bar.TID, Seq: bar.Seq, Map: uint64(i) * 0x9e3779b97f4a7c15}
		if b, err := AckBytes(ack); err != nil || len(b) != 28 {
			t.Fatalf("Bytes(%v): %x, %v", ack, b, err)
		} else if got, err := ReadAck(b); err != nil || got != ack {
			t.Fatalf("Read of Bytes of %v is %v, %v", ack, got, err)
		}
		poll := api.Poll{AID: i%2007 + 1, BSS: bar.To, From: bar.From}
		if b, err := PollBytes(poll); err != nil || len(b) != 16 {
			t.Fatalf("Bytes(%v): %x, %v", poll, b, err)
		} else if got, err := ReadPoll(b); err != nil || got != poll {
			t.Fatalf("Read of Bytes of %v is %v, %v", poll, got, err)
		}
	}
}

func TestKind(t *testing.T) {
	if got := Kind(nil); got != 0 {
		t.Errorf("Kind of nothing is %#x", got)
	}
	if got := Kind([]byte{}); got != 0 {
		t.Errorf("Kind of nothing is %#x", got)
	}
	for c := range 256 {
		want := 0
		if c == 0x84 || c == 0x94 || c == 0xa4 || c == 0x88 || c == 0xd0 {
			want = c
		}
		for _, behind := range [][]byte{nil, {0x84}, {0, 0xff, 0xa4}, make([]byte, 30)} {
			if got := Kind(append([]byte{byte(c)}, behind...)); got != want {
				t.Errorf("Kind(%#x, %x) = %#x, want %#x", c, behind, got, want)
			}
		}
	}
}

// Kind tells of what the Bytes calls write, and of what no Read call takes, too.
func TestKindOfFrames(t *testing.T) {
	for _, f := range frames() {
		b := f.plain()
		for n := range b {
			if got := Kind(b[:n+1]); got != int(f.first) {
				t.Errorf("%s: Kind(%x) = %#x", f.name, b[:n+1], got)
			}
		}
	}
}

// What holds everywhere: memory.

func TestHandedInIsLeftAlone(t *testing.T) {
	for _, f := range frames() {
		room := append(f.plain(), 9, 8, 7)
		was, n := bytes.Clone(room), len(room)-3
		f.again(room[:n])
		f.again(room[:n-1])
		f.again(room[:n+1])
		Kind(room[:n])
		if !bytes.Equal(room, was) {
			t.Errorf("%s: handed in %v, now %v", f.name, was, room)
		}
	}
}

// What lies behind the length is not read: another byte there changes nothing.
func TestBehindTheLengthIsNotRead(t *testing.T) {
	for _, f := range frames() {
		for _, behind := range []byte{0, 1, 0xff} {
			room := append(f.plain(), behind, behind)
			n := len(room) - 2
			f.mustTake(t, room[:n])
			f.mustRefuse(t, room[:n-1], api.ErrEnd)
			f.mustRefuse(t, room[:1], api.ErrEnd)
			f.mustRefuse(t, room[:0], api.ErrEnd)
			if got := Kind(room[:0]); got != 0 {
				t.Errorf("%s: Kind of nothing is %#x", f.name, got)
			}
		}
	}
}

func TestBytesAnswersNewMemory(t *testing.T) {
	for _, f := range frames() {
		first, _, _ := f.again(f.plain())
		second, _, _ := f.again(f.plain())
		for i := range first[:cap(first)] {
			first[:cap(first)][i] ^= 0xff
		}
		_ = append(first, 0x55)
		third, _, _ := f.again(f.plain())
		if !bytes.Equal(second, f.plain()) || !bytes.Equal(third, f.plain()) {
			t.Errorf("%s: written through an answer", f.name)
		}
	}
}

// FuzzRead holds the Read calls against the Bytes calls: what one of them takes, Bytes writes, and none takes another's.
func FuzzRead(f *testing.F) {
	for _, x := range frames() {
		f.Add(x.plain())
	}
	f.Add([]byte{})
	f.Fuzz(func(t *testing.T, b []byte) {
		for _, x := range frames() {
			got, _, err := x.again(b)
			if err == nil && (!bytes.Equal(got, b) || Kind(b) != int(x.first)) {
				t.Errorf("%s: Bytes of Read of %x is %x", x.name, b, got)
			}
		}
	})
}
