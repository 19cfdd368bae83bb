package tim

import (
	"bytes"
	"math"
	"slices"
	"testing"

	"muezzin/api"
)

func same(x, y api.Tim) bool {
	return x.Count == y.Count && x.Period == y.Period && x.Group == y.Group && slices.Equal(x.AIDs, y.AIDs)
}

func isZero(x api.Tim) bool { return same(x, api.Tim{}) }

// plain is the Tim that the tests start from: part of its bitmap is left out on both sides, and inside it a byte is 0.
func plain() api.Tim {
	return api.Tim{Count: 2, Period: 0x63, Group: true, AIDs: []int{33, 39, 40, 58, 66}}
}

// bytesOfPlain is the same as bytes, written out.
func bytesOfPlain() []byte { return []byte{5, 8, 2, 0x63, 5, 0x82, 1, 0, 4, 4} }

// with is b with other bytes from a place on, in memory of its own.
func with(b []byte, at int, c ...byte) []byte {
	b = bytes.Clone(b)
	copy(b[at:], c)
	return b
}

// sized is a Tim's bytes with that control byte and those of the bitmap, their size as it has to be.
func sized(control byte, part ...byte) []byte {
	return append([]byte{5, byte(3 + len(part)), 0, 1, control}, part...)
}

// model is Bytes as the chapter words it: from the whole bitmap.
func model(t api.Tim) []byte {
	var whole [251]byte
	for _, a := range t.AIDs {
		whole[a/8] |= 1 << (a % 8)
	}
	from, last := 0, 0
	for len(t.AIDs) > 0 && whole[from] == 0 && whole[from+1] == 0 {
		from += 2
	}
	for n, c := range whole {
		if c != 0 {
			last = n
		}
	}
	control := byte(from)
	if t.Group {
		control++
	}
	part := whole[from : last+1]
	return append([]byte{5, byte(3 + len(part)), byte(t.Count), byte(t.Period), control}, part...)
}

// mustBe fails unless Bytes of x is b and Read of b is x.
func mustBe(t *testing.T, x api.Tim, b []byte) {
	t.Helper()
	if got, err := Bytes(x); err != nil || !bytes.Equal(got, b) {
		t.Errorf("Bytes(%v) = %x, %v, want %x", x, got, err, b)
	}
	if got, err := Read(b); err != nil || !same(got, x) {
		t.Errorf("Read(%x) = %v, %v, want %v", b, got, err, x)
	}
}

// mustBeNoBytes fails unless Bytes of x is refused.
func mustBeNoBytes(t *testing.T, x api.Tim) {
	t.Helper()
	if b, err := Bytes(x); err != api.ErrRange || len(b) > 0 {
		t.Errorf("Bytes(%v) = %x, %v, want the error %v", x, b, err, api.ErrRange)
	}
}

// mustRefuse fails unless Read of b answers that error, and nothing beside it, and it has no AID.
func mustRefuse(t *testing.T, b []byte, want error) {
	t.Helper()
	if got, err := Read(b); err != want || !isZero(got) {
		t.Errorf("Read(%x) = %v, %v, want the error %v", b, got, err, want)
	}
	for _, a := range []int{0, 1, 33, 2007} {
		if Has(b, a) {
			t.Errorf("Has(%x, %d), but Read has an error", b, a)
		}
	}
}

// P6.1: Bytes, and what Read takes

func TestOrdinaryTims(t *testing.T) {
	mustBe(t, plain(), bytesOfPlain())
	x := plain()
	x.Group = false
	mustBe(t, x, with(bytesOfPlain(), 4, 4))
	mustBe(t, api.Tim{Count: 1, Period: 3, AIDs: []int{1, 2, 5, 12}}, []byte{5, 5, 1, 3, 0, 0x26, 0x10})
	mustBe(t, api.Tim{Period: 100, Group: true, AIDs: []int{500}}, []byte{5, 4, 0, 100, 63, 0x10})
}

func TestTimsWithoutAIDs(t *testing.T) {
	mustBe(t, api.Tim{Period: 1}, []byte{5, 4, 0, 1, 0, 0})
	mustBe(t, api.Tim{Period: 1, AIDs: []int{}}, []byte{5, 4, 0, 1, 0, 0})
	mustBe(t, api.Tim{Period: 1, Group: true}, []byte{5, 4, 0, 1, 1, 0})
	mustBe(t, api.Tim{Count: 254, Period: 255, Group: true}, []byte{5, 4, 254, 255, 1, 0})
}

func TestTimsAtTheirEdges(t *testing.T) {
	mustBe(t, api.Tim{Period: 1, AIDs: []int{1}}, sized(0, 2))
	mustBe(t, api.Tim{Period: 1, AIDs: []int{7}}, sized(0, 0x80))
	mustBe(t, api.Tim{Period: 1, AIDs: []int{8}}, sized(0, 0, 1))
	mustBe(t, api.Tim{Period: 1, AIDs: []int{15}}, sized(0, 0, 0x80))
	mustBe(t, api.Tim{Period: 1, AIDs: []int{16}}, sized(2, 1))
	mustBe(t, api.Tim{Period: 1, AIDs: []int{1999}}, sized(248, 0, 0x80))
	mustBe(t, api.Tim{Period: 1, AIDs: []int{2000}}, sized(250, 1))
	mustBe(t, api.Tim{Period: 1, Group: true, AIDs: []int{2007}}, sized(251, 0x80))
	mustBe(t, api.Tim{Period: 1, AIDs: []int{15, 16}}, sized(0, 0, 0x80, 1))
	mustBe(t, api.Tim{Period: 1, AIDs: []int{16, 31, 32}}, sized(2, 1, 0x80, 1))
}

// All AIDs, and the two outermost: the whole bitmap, 256 bytes in all.
func TestTheLongestTims(t *testing.T) {
	var all []int
	for a := 1; a <= 2007; a++ {
		all = append(all, a)
	}
	full := bytes.Repeat([]byte{0xff}, 251)
	full[0] = 0xfe
	mustBe(t, api.Tim{Period: 1, AIDs: all}, append([]byte{5, 254, 0, 1, 0}, full...))
	ends := make([]byte, 251)
	ends[0], ends[250] = 2, 0x80
	mustBe(t, api.Tim{Period: 1, Group: true, AIDs: []int{1, 2007}}, append([]byte{5, 254, 0, 1, 1}, ends...))
}

func TestEachCountAndPeriod(t *testing.T) {
	for period := 1; period < 256; period++ {
		for count := range period {
			x := plain()
			x.Count, x.Period = count, period
			mustBe(t, x, with(bytesOfPlain(), 2, byte(count), byte(period)))
		}
	}
}

func TestEachAID(t *testing.T) {
	for a := 1; a <= 2007; a++ {
		for _, group := range []bool{false, true} {
			x := api.Tim{Count: 1, Period: 2, Group: group, AIDs: []int{a}}
			mustBe(t, x, model(x))
		}
	}
}

func TestPairsOfAIDs(t *testing.T) {
	for a := 1; a <= 2007; a++ {
		for _, more := range []int{1, 2, 7, 8, 9, 15, 16, 17, 32, 255, 256, 1000, 2007 - a} {
			if b := a + more; a < b && b <= 2007 {
				x := api.Tim{Period: 1, Group: a%2 == 0, AIDs: []int{a, b}}
				mustBe(t, x, model(x))
			}
		}
	}
}

// P6.1: what Bytes refuses

// outside is numbers that are not least to most, those among them that a byte or two would hide.
func outside(least, most int) []int {
	l := []int{least - 1, most + 1, most + 2, -1, -2, -255, -256, -1 - most, -65536, most + 256, most + 512, most + 65536}
	return append(l, 65536+least, 1<<32+least, 1<<32+most, -1<<32, math.MinInt, math.MinInt+most, math.MaxInt)
}

func TestBytesOfPeriodsThatMayNotBe(t *testing.T) {
	for _, n := range outside(1, 255) {
		for _, x := range []api.Tim{plain(), {}, {Group: true}} {
			x.Period = n
			mustBeNoBytes(t, x)
			x.Count = n
			mustBeNoBytes(t, x)
			x.Count = n - 1
			mustBeNoBytes(t, x)
		}
	}
	mustBeNoBytes(t, api.Tim{})
}

func TestBytesOfCountsThatMayNotBe(t *testing.T) {
	for period := 1; period < 256; period++ {
		for _, n := range outside(0, period-1) {
			x := plain()
			x.Count, x.Period = n, period
			mustBeNoBytes(t, x)
			mustBeNoBytes(t, api.Tim{Count: n, Period: period})
		}
	}
}

func TestBytesOfAIDsThatMayNotBe(t *testing.T) {
	for _, n := range outside(1, 2007) {
		x := plain()
		for at := range x.AIDs {
			x = plain()
			x.AIDs[at] = n
			mustBeNoBytes(t, x)
		}
		x.AIDs = []int{n}
		mustBeNoBytes(t, x)
		x.AIDs = []int{n, 1}
		mustBeNoBytes(t, x)
		x.AIDs = []int{2007, n}
		mustBeNoBytes(t, x)
	}
	mustBeNoBytes(t, api.Tim{Period: 1, AIDs: []int{0, 1}})
	mustBeNoBytes(t, api.Tim{Period: 1, AIDs: []int{2007, 2008}})
	mustBeNoBytes(t, api.Tim{Period: 1, AIDs: []int{-2, -1}})
}

func TestBytesOfAIDsThatDoNotRise(t *testing.T) {
	for _, l := range [][]int{{1, 1}, {2, 1}, {2007, 2007}, {2007, 1}, {1, 2, 2}, {1, 3, 2}, {3, 1, 2}, {9, 8, 17}, {1, 2, 3, 2007, 2006}} {
		mustBeNoBytes(t, api.Tim{Period: 1, AIDs: l})
	}
	for at := range len(plain().AIDs) - 1 {
		x := plain()
		x.AIDs[at], x.AIDs[at+1] = x.AIDs[at+1], x.AIDs[at]
		mustBeNoBytes(t, x)
		x = plain()
		x.AIDs[at+1] = x.AIDs[at]
		mustBeNoBytes(t, x)
	}
}

// P6.1: what Read refuses

func TestReadOfWhatEndsTooEarly(t *testing.T) {
	mustRefuse(t, nil, api.ErrEnd)
	mustRefuse(t, []byte{}, api.ErrEnd)
	for c := range 256 {
		mustRefuse(t, []byte{byte(c)}, api.ErrEnd)
	}
	for n := range bytesOfPlain() {
		mustRefuse(t, bytesOfPlain()[:n], api.ErrEnd)
	}
}

func TestReadOfAnotherKind(t *testing.T) {
	long := append(bytesOfPlain(), make([]byte, 300)...)
	for c := range 256 {
		for n := 2; c != 5 && n < len(long); n++ {
			mustRefuse(t, with(long[:n], 0, byte(c)), api.ErrKind)
		}
	}
}

// Each size, and fewer bytes than it says, as many and more: with all else as it has to be, and with nothing so.
func TestReadOfEachSize(t *testing.T) {
	for size := range 256 {
		for n := 2; n < 300; n++ {
			if size >= 4 && n == 2+size {
				continue
			}
			want := api.ErrEnd
			if n >= 2+size {
				want = api.ErrShape
			}
			good := append(make([]byte, 4), bytes.Repeat([]byte{2}, n)...)
			mustRefuse(t, with(good[:n], 0, 5, byte(size), 0, 1, 0), want)
			mustRefuse(t, with(bytes.Repeat([]byte{0xff}, n), 0, 5, byte(size)), want)
		}
	}
}

func TestReadOfWhatGoesOn(t *testing.T) {
	for _, n := range []int{1, 2, 3, 8, 100, 256, 65536} {
		mustRefuse(t, append(bytesOfPlain(), make([]byte, n)...), api.ErrShape)
	}
}

func TestReadOfEachCountAndPeriod(t *testing.T) {
	for count := range 256 {
		for period := range 256 {
			b := with(bytesOfPlain(), 2, byte(count), byte(period))
			if count < period {
				x := plain()
				x.Count, x.Period = count, period
				mustBe(t, x, b)
			} else {
				mustRefuse(t, b, api.ErrRange)
			}
		}
	}
}

// mustReadPart fails unless Read answers what the chapter says for that control byte and that part of a bitmap.
func mustReadPart(t *testing.T, control byte, part ...byte) {
	t.Helper()
	b := sized(control, part...)
	x := api.Tim{Period: 1, Group: control%2 == 1}
	for i, c := range part {
		for bit := range 8 {
			if c&(1<<bit) != 0 {
				x.AIDs = append(x.AIDs, (int(control)/2*2+i)*8+bit)
			}
		}
	}
	n := len(x.AIDs)
	switch {
	case n > 0 && (x.AIDs[0] < 1 || x.AIDs[n-1] > 2007):
		mustRefuse(t, b, api.ErrRange)
	case !bytes.Equal(model(x), b):
		mustRefuse(t, b, api.ErrShape)
	default:
		mustBe(t, x, b)
	}
}

// Each control byte, with all parts of one byte and many of more.
func TestReadOfEachPart(t *testing.T) {
	some := []byte{0, 1, 2, 0x80, 0xff}
	for control := range 256 {
		for c := range 256 {
			mustReadPart(t, byte(control), byte(c))
			mustReadPart(t, byte(control), 0, byte(c))
			mustReadPart(t, byte(control), byte(c), 0)
			mustReadPart(t, byte(control), 0, 0, byte(c))
		}
		for _, c := range some {
			for _, d := range some {
				for _, e := range some {
					mustReadPart(t, byte(control), c, d)
					mustReadPart(t, byte(control), c, d, e)
					mustReadPart(t, byte(control), c, d, 0, e)
				}
			}
		}
	}
}

// Each length of a part, up to the 252 bytes that a size may say, from each first byte.
func TestReadOfEachLengthOfAPart(t *testing.T) {
	for control := range 256 {
		for n := 1; n <= 252; n++ {
			part := make([]byte, n)
			mustReadPart(t, byte(control), part...)
			part[0] = 2
			mustReadPart(t, byte(control), part...)
			part[n-1] |= 0x40
			mustReadPart(t, byte(control), part...)
			part[0] = 0
			mustReadPart(t, byte(control), part...)
		}
	}
}

func TestReadOfAnotherPart(t *testing.T) {
	// Without AIDs there is one byte, from 0.
	mustRefuse(t, sized(0, 0, 0), api.ErrShape)
	mustRefuse(t, sized(2, 0), api.ErrShape)
	mustRefuse(t, sized(3, 0), api.ErrShape)
	mustRefuse(t, sized(250, 0), api.ErrShape)
	mustRefuse(t, sized(254, 0), api.ErrShape)
	mustRefuse(t, sized(0, make([]byte, 252)...), api.ErrShape)
	// It begins too early.
	mustRefuse(t, sized(0, 0, 0, 1), api.ErrShape)
	mustRefuse(t, sized(4, 0, 0, 1), api.ErrShape)
	// It ends too late.
	mustRefuse(t, sized(0, 2, 0), api.ErrShape)
	mustRefuse(t, sized(0, 0, 2, 0), api.ErrShape)
	mustRefuse(t, sized(250, 1, 0), api.ErrShape)
	// No station has AID 0, nor one past the greatest.
	mustRefuse(t, sized(0, 1), api.ErrRange)
	mustRefuse(t, sized(1, 1), api.ErrRange)
	mustRefuse(t, sized(0, 3), api.ErrRange)
	mustRefuse(t, sized(250, 0, 1), api.ErrRange)
	mustRefuse(t, sized(250, 1, 1), api.ErrRange)
	mustRefuse(t, sized(252, 1), api.ErrRange)
	mustRefuse(t, sized(255, 0x80), api.ErrRange)
	full := make([]byte, 252)
	full[0], full[251] = 2, 1
	mustRefuse(t, sized(0, full...), api.ErrRange)
}

// Where several errors hold, the one that is named first is answered.
func TestOrderOfErrors(t *testing.T) {
	mustRefuse(t, []byte{6}, api.ErrEnd)
	// Another kind, and too few, too many, a size too small, numbers that may not be, another part.
	mustRefuse(t, []byte{6, 4, 0}, api.ErrKind)
	mustRefuse(t, []byte{6, 4, 0, 1, 0, 0, 0}, api.ErrKind)
	mustRefuse(t, []byte{6, 3, 0, 1, 0}, api.ErrKind)
	mustRefuse(t, []byte{6, 4, 0, 0, 0, 1}, api.ErrKind)
	mustRefuse(t, []byte{6, 4, 0, 1, 2, 0}, api.ErrKind)
	// Too few bytes, and a size too small, numbers that may not be.
	mustRefuse(t, []byte{5, 3, 0, 1}, api.ErrEnd)
	mustRefuse(t, []byte{5, 1}, api.ErrEnd)
	mustRefuse(t, []byte{5, 5, 0, 0, 0, 1}, api.ErrEnd)
	// Too many, and numbers that may not be.
	mustRefuse(t, []byte{5, 4, 0, 0, 0, 1, 0}, api.ErrShape)
	mustRefuse(t, []byte{5, 4, 1, 1, 0, 2, 0}, api.ErrShape)
	// A size too small, and numbers that may not be.
	mustRefuse(t, []byte{5, 0}, api.ErrShape)
	mustRefuse(t, []byte{5, 2, 0, 0}, api.ErrShape)
	mustRefuse(t, []byte{5, 3, 9, 9, 0}, api.ErrShape)
	// Numbers that may not be, and another part.
	mustRefuse(t, []byte{5, 4, 0, 0, 2, 0}, api.ErrRange)
	mustRefuse(t, []byte{5, 4, 7, 7, 2, 0}, api.ErrRange)
	mustRefuse(t, []byte{5, 5, 0, 1, 0, 1, 0}, api.ErrRange)
	mustRefuse(t, []byte{5, 6, 0, 1, 248, 0, 0, 0}, api.ErrShape)
	mustRefuse(t, []byte{5, 7, 0, 1, 248, 0, 0, 0, 1}, api.ErrRange)
}

// P6.2

// spread is the AIDs of which the number, times that factor, leaves a small rest.
func spread(factor, modulus, below int) []int {
	var l []int
	for a := 1; a <= 2007; a++ {
		if a*factor%modulus < below {
			l = append(l, a)
		}
	}
	return l
}

func TestReadOfBytes(t *testing.T) {
	for i := range 1 << 10 {
		x := api.Tim{Period: 1 + i*37%255, Group: i%3 == 0, AIDs: spread(i*2531+1, 4093, 1+i*i%200)}
		x.Count = i * 619 % x.Period
		if cut := i % (len(x.AIDs) + 1); i%2 == 0 {
			x.AIDs = x.AIDs[cut:]
		} else {
			x.AIDs = x.AIDs[:cut]
		}
		mustBe(t, x, model(x))
	}
}

func TestHas(t *testing.T) {
	for _, x := range []api.Tim{plain(), {Period: 1}, {Period: 1, Group: true}, {Period: 1, AIDs: []int{1, 2007}}, {Period: 1, AIDs: spread(7, 13, 5)}} {
		for a := -2100; a <= 4200; a++ {
			if got, want := Has(model(x), a), slices.Contains(x.AIDs, a); got != want {
				t.Errorf("Has of the bytes of %v, %d: %v, want %v", x, a, got, want)
			}
		}
		for _, a := range append(outside(1, 2007), 65536+33, 1<<32+33, 1<<60+33, math.MinInt+33) {
			if Has(model(x), a) {
				t.Errorf("the bytes of %v have %d", x, a)
			}
		}
	}
}

func TestHasOfEachAID(t *testing.T) {
	for a := 1; a <= 2007; a++ {
		b := model(api.Tim{Period: 1, AIDs: []int{a}})
		for _, near := range []int{a - 256, a - 16, a - 8, a - 1, a, a + 1, a + 8, a + 16, a + 256} {
			if got := Has(b, near); got != (near == a) {
				t.Errorf("Has(%x, %d) = %v", b, near, got)
			}
		}
	}
}

// What Read refuses has none, though its bit is set.
func TestHasOfWhatReadRefuses(t *testing.T) {
	for _, b := range [][]byte{
		nil,
		{5, 4, 0, 1, 0},
		{6, 4, 0, 1, 0, 2},
		{5, 5, 0, 1, 0, 2},
		{5, 4, 0, 1, 0, 2, 0},
		{5, 4, 0, 0, 0, 2},
		{5, 4, 1, 1, 0, 2},
		{5, 4, 0, 1, 0, 3},
		{5, 5, 0, 1, 0, 2, 0},
	} {
		for _, a := range []int{0, 1} {
			if Has(b, a) {
				t.Errorf("Has(%x, %d), but Read has an error", b, a)
			}
		}
	}
	if b := sized(0, 2); !Has(b, 1) {
		t.Errorf("Has(%x, 1) is false", b)
	}
	if b := sized(250, 0, 1); Has(b, 2008) {
		t.Errorf("Has(%x, 2008)", b)
	}
}

// What holds everywhere: memory.

func TestHandedInIsLeftAlone(t *testing.T) {
	room := append(bytesOfPlain(), 9, 8, 7)
	was := bytes.Clone(room)
	for n := range room {
		Read(room[:n])
		Has(room[:n], 33)
	}
	if !bytes.Equal(room, was) {
		t.Errorf("handed in %x, now %x", was, room)
	}
	x := plain()
	x.AIDs = append(x.AIDs, 100, 50)[:len(x.AIDs)]
	b, err := Bytes(x)
	if all := x.AIDs[:len(x.AIDs)+2]; err != nil || !bytes.Equal(b, bytesOfPlain()) || !slices.Equal(all, append(plain().AIDs, 100, 50)) {
		t.Errorf("Bytes(%v) = %x, %v, what was handed in is now %v", x, b, err, all)
	}
}

// What lies behind the length is not read: another byte there changes nothing.
func TestBehindTheLengthIsNotRead(t *testing.T) {
	for _, behind := range []byte{0, 1, 0xff} {
		room := append(bytesOfPlain(), behind, behind)
		n := len(room) - 2
		mustBe(t, plain(), room[:n])
		for size := range n {
			mustRefuse(t, room[:size], api.ErrEnd)
		}
	}
}

func TestAnswersAreNewMemory(t *testing.T) {
	first, _ := Bytes(plain())
	second, _ := Bytes(plain())
	for i := range first[:cap(first)] {
		first[:cap(first)][i] ^= 0xff
	}
	if third, _ := Bytes(plain()); !bytes.Equal(second, bytesOfPlain()) || !bytes.Equal(third, bytesOfPlain()) {
		t.Errorf("written through an answer of Bytes: %x, %x", second, third)
	}
	b := bytesOfPlain()
	x, _ := Read(b)
	y, _ := Read(b)
	for i := range x.AIDs[:cap(x.AIDs)] {
		x.AIDs[:cap(x.AIDs)][i] = 77
	}
	if z, _ := Read(b); !same(y, plain()) || !same(z, plain()) || !bytes.Equal(b, bytesOfPlain()) {
		t.Errorf("written through an answer of Read: %v, %v, %x", y, z, b)
	}
}

// FuzzRead holds Read and Has against Bytes: what Read takes, Bytes writes.
func FuzzRead(f *testing.F) {
	f.Add(bytesOfPlain(), 33)
	f.Add([]byte{5, 4, 0, 1, 0, 0}, 0)
	f.Add([]byte{}, -1)
	f.Fuzz(func(t *testing.T, b []byte, aid int) {
		x, err := Read(b)
		if want := err == nil && slices.Contains(x.AIDs, aid); Has(b, aid) != want {
			t.Errorf("Has(%x, %d) is not %v", b, aid, want)
		}
		if err != nil {
			if !isZero(x) {
				t.Errorf("Read(%x) = %v beside the error %v", b, x, err)
			}
			return
		}
		if got, err := Bytes(x); err != nil || !bytes.Equal(got, b) || !bytes.Equal(model(x), b) {
			t.Errorf("Bytes of Read of %x is %x, %v", b, got, err)
		}
	})
}
