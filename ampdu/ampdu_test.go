package ampdu

import (
	"bytes"
	"math"
	"math/rand"
	"slices"
	"testing"

	"muezzin/api"
	"muezzin/crc"
)

func same(x, y [][]byte) bool { return slices.EqualFunc(x, y, bytes.Equal) }

// clone is l in memory of its own.
func clone(l [][]byte) [][]byte {
	var out [][]byte
	for _, p := range l {
		out = append(out, bytes.Clone(p))
	}
	return out
}

// repeat is n parts that are p.
func repeat(p []byte, n int) [][]byte {
	var l [][]byte
	for range n {
		l = append(l, p)
	}
	return l
}

// plain is the parts that the tests start from: with three zeros, two, one and none behind them.
func plain() [][]byte {
	return [][]byte{[]byte("a"), []byte("NN"), []byte("xyz"), {0, 0x4e, 0, 0xff}, []byte("end")}
}

// bytesOfPlain is the same as bytes, written out.
func bytesOfPlain() []byte {
	return []byte{
		0x10, 0, 0x01, 0x4e, 'a', 0, 0, 0,
		0x20, 0, 0x3e, 0x4e, 'N', 'N', 0, 0,
		0x30, 0, 0x2b, 0x4e, 'x', 'y', 'z', 0,
		0x40, 0, 0x40, 0x4e, 0, 0x4e, 0, 0xff,
		0x30, 0, 0x2b, 0x4e, 'e', 'n', 'd',
	}
}

// with is b with other bytes from a place on, in memory of its own.
func with(b []byte, at int, c ...byte) []byte {
	b = bytes.Clone(b)
	copy(b[at:], c)
	return b
}

// join is all of these, one behind the other, in new memory.
func join(l ...[]byte) []byte { return bytes.Join(l, nil) }

// head is a delimiter that has those two bytes, whatever they say.
func head(low, high byte) []byte {
	return []byte{low, high, crc.Sum([]byte{low, high}), 0x4e}
}

// part is a delimiter and that part.
func part(p string) []byte { return append(head(byte(len(p)*16), byte(len(p)/16)), p...) }

// modelPack is Pack as the chapter words it, of parts that may be.
func modelPack(l [][]byte) []byte {
	var b []byte
	for i, p := range l {
		b = append(b, part(string(p))...)
		for i < len(l)-1 && len(b)%4 != 0 {
			b = append(b, 0)
		}
	}
	return b
}

// modelParts is Parts as the chapter words it.
func modelParts(b []byte) ([][]byte, error) {
	if len(b) == 0 {
		return nil, api.ErrShape
	}
	all := len(b)
	var l [][]byte
	for {
		if len(b) < 4 {
			return nil, api.ErrEnd
		}
		low, high, sum, mark := b[0], b[1], b[2], b[3]
		if sum != crc.Sum([]byte{low, high}) {
			return nil, api.ErrSum
		}
		n := int(high)*16 + int(low>>4)
		if mark != 'N' || low&0xf != 0 || n == 0 {
			return nil, api.ErrShape
		}
		b = b[4:]
		if len(b) < n {
			return nil, api.ErrEnd
		}
		l = append(l, b[:n])
		b = b[n:]
		if len(b) == 0 {
			break
		}
		for ; n%4 != 0 && len(b) > 0; n++ {
			if b[0] != 0 {
				return nil, api.ErrShape
			}
			b = b[1:]
		}
	}
	if len(l) > 64 || all > 65535 {
		return nil, api.ErrMany
	}
	return l, nil
}

// modelUnpack is Unpack as the chapter words it: it asks every multiple of 4, and leaves out those inside a part.
func modelUnpack(b []byte) [][]byte {
	var l [][]byte
	end := 0
	for at := 0; at+4 <= len(b); at += 4 {
		v := int(b[at]) + 256*int(b[at+1])
		n := v / 16
		if at < end || b[at+2] != crc.Sum(b[at:at+2]) || b[at+3] != 'N' || v%16 != 0 || n < 1 || at+4+n > len(b) {
			continue
		}
		end = at + 4 + n
		l = append(l, b[at+4:end])
	}
	return l
}

func lens(l [][]byte) []int {
	var out []int
	for _, p := range l {
		out = append(out, len(p))
	}
	return out
}

// mustBe fails unless Pack of l is b, Len tells how long, and Parts and Unpack of b are l.
func mustBe(t *testing.T, l [][]byte, b []byte) {
	t.Helper()
	if got, err := Pack(l...); err != nil || !bytes.Equal(got, b) {
		t.Errorf("Pack of parts of %v = %d bytes, %v, want %d bytes", lens(l), len(got), err, len(b))
	}
	if got := Len(lens(l)...); got != len(b) {
		t.Errorf("Len(%v) = %d, want %d", lens(l), got, len(b))
	}
	if got, err := Parts(b); err != nil || !same(got, l) {
		t.Errorf("Parts of Pack of parts of %v = %v, %v", lens(l), lens(got), err)
	}
	if got := Unpack(b); !same(got, l) {
		t.Errorf("Unpack of Pack of parts of %v = %v", lens(l), lens(got))
	}
}

// mustBeNoPack fails unless Pack of l is refused with that error.
func mustBeNoPack(t *testing.T, l [][]byte, want error) {
	t.Helper()
	if b, err := Pack(l...); err != want || len(b) > 0 {
		t.Errorf("Pack of parts of %v = %d bytes, %v, want the error %v", lens(l), len(b), err, want)
	}
}

// mustRefuse fails unless Parts of b answers that error, and nothing beside it.
func mustRefuse(t *testing.T, b []byte, want error) {
	t.Helper()
	if l, err := Parts(b); err != want || len(l) > 0 {
		t.Errorf("Parts(%x) = %x, %v, want the error %v", b, l, err, want)
	}
}

// mustFind fails unless Unpack of b is those parts.
func mustFind(t *testing.T, b []byte, want ...string) {
	t.Helper()
	got := Unpack(b)
	if !slices.EqualFunc(got, want, func(p []byte, w string) bool { return string(p) == w }) {
		t.Errorf("Unpack(%x) = %q, want %q", b, got, want)
	}
}

// mustBeAsModel fails unless Parts and Unpack of b are as the chapter words them.
func mustBeAsModel(t *testing.T, b []byte) {
	t.Helper()
	l, err := Parts(b)
	if want, wantErr := modelParts(b); err != wantErr || !same(l, want) {
		t.Errorf("Parts(%x) = %x, %v, want %x, %v", b, l, err, want, wantErr)
	}
	if got, want := Unpack(b), modelUnpack(b); !same(got, want) {
		t.Errorf("Unpack(%x) = %x, want %x", b, got, want)
	}
	if err != nil {
		return
	}
	if got := Unpack(b); !same(got, l) {
		t.Errorf("Unpack(%x) = %x, but Parts = %x", b, got, l)
	}
	if got, err := Pack(l...); err != nil || !bytes.Equal(got, b) {
		t.Errorf("Pack of Parts of %x = %x, %v", b, got, err)
	}
}

// P7.1: Pack and Len

func TestOrdinaryParts(t *testing.T) {
	mustBe(t, plain(), bytesOfPlain())
	mustBe(t, [][]byte{[]byte("abc")}, []byte{0x30, 0, 0x2b, 0x4e, 'a', 'b', 'c'})
	mustBe(t, [][]byte{[]byte("ab"), []byte("c")}, []byte{0x20, 0, 0x3e, 0x4e, 'a', 'b', 0, 0, 0x10, 0, 0x01, 0x4e, 'c'})
	mustBe(t, [][]byte{[]byte("fives"), {0}}, []byte{0x50, 0, 0x55, 0x4e, 'f', 'i', 'v', 'e', 's', 0, 0, 0, 0x10, 0, 0x01, 0x4e, 0})
	mustBe(t, [][]byte{{0, 0}, {0, 0, 0, 0}}, []byte{0x20, 0, 0x3e, 0x4e, 0, 0, 0, 0, 0x40, 0, 0x40, 0x4e, 0, 0, 0, 0})
}

// A length of two bytes: the lowest is the first.
func TestLongParts(t *testing.T) {
	for _, x := range []struct {
		n    int
		head []byte
	}{{255, []byte{0xf0, 0x0f, 0xac, 0x4e}}, {256, []byte{0, 0x10, 0x08, 0x4e}}, {300, []byte{0xc0, 0x12, 0x17, 0x4e}}, {4094, []byte{0xe0, 0xff, 0x0d, 0x4e}}, {4095, []byte{0xf0, 0xff, 0x18, 0x4e}}} {
		p := bytes.Repeat([]byte{7}, x.n)
		mustBe(t, [][]byte{p}, join(x.head, p))
		zeros := make([]byte, (4-x.n%4)%4)
		mustBe(t, [][]byte{p, p}, join(x.head, p, zeros, x.head, p))
	}
}

func TestEachLength(t *testing.T) {
	p := bytes.Repeat([]byte{0xa5}, 4095)
	for n := 1; n <= 4095; n++ {
		for _, l := range [][][]byte{{p[:n]}, {p[:n], p[:1]}, {p[:3], p[:n]}} {
			mustBe(t, l, modelPack(l))
		}
	}
}

func TestEachRestOfThree(t *testing.T) {
	p := []byte("several")
	for i := range 512 {
		l := [][]byte{p[:1+i%8%7], p[:1+i/8%8%7], p[:1+i/64%7]}
		mustBe(t, l, modelPack(l))
	}
}

// What a part has is nobody's concern: delimiters, zeros, marks.
func TestPartsThatLookLikeMore(t *testing.T) {
	inner, _ := Pack(plain()...)
	for _, l := range [][][]byte{{inner}, {inner, inner, []byte("x"), inner}, {inner[:4]}, {inner[:4], inner[:3]}, {make([]byte, 64), inner[4:]}} {
		mustBe(t, l, modelPack(l))
	}
}

func TestAsManyAsMayBe(t *testing.T) {
	for n := 1; n <= 64; n++ {
		for _, p := range []string{"a", "four", "seven b"} {
			l := repeat([]byte(p), n)
			mustBe(t, l, modelPack(l))
		}
	}
	for n := 65; n <= 200; n++ {
		mustBeNoPack(t, repeat([]byte("a"), n), api.ErrMany)
	}
	mustBeNoPack(t, repeat([]byte("a"), 65536+1), api.ErrMany)
}

// sized is parts that have that many bytes in all when they go together: 15 of one length, and one more.
func sized(all, length int) [][]byte {
	l := repeat(make([]byte, length), 15)
	last := all - 15*((4+length+3)/4*4) - 4
	return append(l, make([]byte, last))
}

func TestAsLongAsMayBe(t *testing.T) {
	for _, length := range []int{4089, 4090, 4091, 4092} {
		for all := 65500; all <= 65535; all++ {
			l := sized(all, length)
			mustBe(t, l, modelPack(l))
		}
		mustBeNoPack(t, sized(65536, length), api.ErrMany)
	}
	for all := 65536; all < 65540; all++ {
		mustBeNoPack(t, sized(all, 4092), api.ErrMany)
	}
	// The zeros and the delimiters count: the parts alone are fewer bytes.
	mustBeNoPack(t, repeat(make([]byte, 1021), 64), api.ErrMany)
	mustBeNoPack(t, repeat(make([]byte, 4095), 16), api.ErrMany)
	mustBeNoPack(t, repeat(make([]byte, 4095), 64), api.ErrMany)
	// Those behind the last one do not.
	l := repeat(make([]byte, 1020), 63)
	mustBe(t, append(l, make([]byte, 1019)), modelPack(append(l, make([]byte, 1019))))
	mustBeNoPack(t, append(l, make([]byte, 1020)), api.ErrMany)
}

func TestPackOfWhatMayNotBe(t *testing.T) {
	mustBeNoPack(t, nil, api.ErrRange)
	mustBeNoPack(t, [][]byte{}, api.ErrRange)
	for _, bad := range [][]byte{nil, {}, make([]byte, 4096), make([]byte, 4097), make([]byte, 8192), make([]byte, 65536), make([]byte, 65537), make([]byte, 1<<20+1)} {
		mustBeNoPack(t, [][]byte{bad}, api.ErrRange)
		for at := range plain() {
			l := plain()
			l[at] = bad
			mustBeNoPack(t, l, api.ErrRange)
		}
		// One that may not be comes ahead of too many, wherever it stands.
		for _, at := range []int{0, 1, 63, 64, 65, 99} {
			l := repeat([]byte("a"), 100)
			l[at] = bad
			mustBeNoPack(t, l, api.ErrRange)
			l = repeat(make([]byte, 4095), 100)
			l[at] = bad
			mustBeNoPack(t, l, api.ErrRange)
		}
	}
}

func TestLen(t *testing.T) {
	for _, x := range []struct {
		lens []int
		want int
	}{
		{nil, 0}, {[]int{}, 0}, {[]int{0}, 4}, {[]int{1}, 5}, {[]int{3}, 7}, {[]int{4}, 8}, {[]int{5}, 9},
		{[]int{0, 0}, 8}, {[]int{0, 1}, 9}, {[]int{1, 0}, 12}, {[]int{1, 1}, 13}, {[]int{2, 2, 2}, 22}, {[]int{4, 4}, 16}, {[]int{5, 3}, 19},
		{[]int{-1}, 4}, {[]int{-5}, 4}, {[]int{-3, 1}, 9}, {[]int{1, -3}, 12}, {[]int{-1, -2, -3, -4}, 16},
		{[]int{math.MinInt}, 4}, {[]int{math.MinInt, math.MinInt, 5}, 17}, {[]int{3, math.MinInt}, 12},
		// What may not be packed has a length, too.
		{[]int{4095}, 4099}, {[]int{4096}, 4100}, {[]int{4095, 4096, 1}, 4100 + 4100 + 5}, {[]int{1 << 31, 1}, 1<<31 + 9}, {[]int{1<<40 + 1, 2}, 1<<40 + 14},
	} {
		if got := Len(x.lens...); got != x.want {
			t.Errorf("Len(%v) = %d, want %d", x.lens, got, x.want)
		}
	}
	for n := range 300 {
		if got, want := Len(make([]int, n)...), 4*n; got != want {
			t.Errorf("Len of %d zeros = %d, want %d", n, got, want)
		}
	}
}

// P7.1: Parts

func TestPartsOfNothing(t *testing.T) {
	mustRefuse(t, nil, api.ErrShape)
	mustRefuse(t, []byte{}, api.ErrShape)
}

// Wherever it is cut off, it ends too early, but where a part ends.
func TestPartsOfWhatEndsTooEarly(t *testing.T) {
	ends := map[int]int{5: 1, 14: 2, 23: 3, 32: 4}
	for n := 1; n < len(bytesOfPlain()); n++ {
		b := bytesOfPlain()[:n]
		if parts, ok := ends[n]; ok {
			mustBe(t, plain()[:parts], b)
		} else {
			mustRefuse(t, b, api.ErrEnd)
		}
		mustBeAsModel(t, b)
	}
}

// Behind the last part nothing stands: zeros, all that are missing and more of them, are too few for a delimiter, or none.
func TestPartsOfWhatGoesOn(t *testing.T) {
	for n := 1; n <= 8; n++ {
		b := part("several"[:n%7+1])
		fill := (4 - len(b)%4) % 4
		for zeros := 1; zeros < 100; zeros++ {
			want := api.ErrEnd
			if zeros >= fill+4 {
				want = api.ErrSum
			}
			mustRefuse(t, join(b, make([]byte, zeros)), want)
		}
	}
}

func TestPartsWithASumThatDoesNotFit(t *testing.T) {
	for _, at := range []int{0, 8, 16, 24, 32} {
		for bit := range 8 {
			for place := range 3 {
				b := bytesOfPlain()
				b[at+place] ^= 1 << bit
				mustRefuse(t, b, api.ErrSum)
			}
		}
		for c := range 256 {
			b := with(bytesOfPlain(), at+2, byte(c))
			if byte(c) != bytesOfPlain()[at+2] {
				mustRefuse(t, b, api.ErrSum)
			}
			mustBeAsModel(t, b)
		}
	}
}

func TestPartsWithAnotherMark(t *testing.T) {
	for _, at := range []int{3, 11, 19, 27, 35} {
		for c := range 256 {
			if c != 0x4e {
				mustRefuse(t, with(bytesOfPlain(), at, byte(c)), api.ErrShape)
			}
		}
	}
}

// Each two bytes of a length, with their sum: what stands behind is zeros, too few, as many, or too many.
func TestPartsOfEachLengthThatIsSaid(t *testing.T) {
	room := make([]byte, 4095+12)
	for v := range 65536 {
		b := with(room[:4+v/16], 0, head(byte(v), byte(v>>8))...)
		if v%16 != 0 || v == 0 {
			mustRefuse(t, b, api.ErrShape)
			mustRefuse(t, b[:4], api.ErrShape)
			continue
		}
		if l, err := Parts(b); err != nil || len(l) != 1 || len(l[0]) != v/16 {
			t.Errorf("Parts of a part of %d zeros: %v, %v", v/16, lens(l), err)
		}
		mustRefuse(t, b[:len(b)-1], api.ErrEnd)
		mustRefuse(t, b[:4], api.ErrEnd)
		mustRefuse(t, append(b, 0), api.ErrEnd)
		mustRefuse(t, append(b, make([]byte, 8)...), api.ErrSum)
	}
}

func TestPartsWithOthersThanZerosBetween(t *testing.T) {
	for _, at := range []int{5, 6, 7, 14, 15, 23} {
		for c := 1; c < 256; c++ {
			b := with(bytesOfPlain(), at, byte(c))
			mustRefuse(t, b, api.ErrShape)
			// As many as are there: it ends with that one, or behind it.
			mustRefuse(t, b[:at+1], api.ErrShape)
			mustRefuse(t, b[:at+2], api.ErrShape)
			if !same(Unpack(b), plain()) {
				t.Errorf("Unpack(%x) = %q", b, Unpack(b))
			}
		}
	}
}

func TestPartsOfTooMany(t *testing.T) {
	for _, p := range []string{"a", "four", "seven b"} {
		for _, n := range []int{65, 66, 100, 1000} {
			b := modelPack(repeat([]byte(p), n))
			mustRefuse(t, b, api.ErrMany)
			mustBeAsModel(t, b)
			// What is met in a part comes ahead of it.
			mustRefuse(t, append(b, 0), api.ErrEnd)
			mustRefuse(t, b[:len(b)-1], api.ErrEnd)
			end := len(b) - len(p)
			mustRefuse(t, with(b, end-1, 0), api.ErrShape)
			mustRefuse(t, with(b, end-2, b[end-2]+1), api.ErrSum)
		}
	}
	for _, length := range []int{4089, 4090, 4091, 4092} {
		for all := 65530; all <= 65536; all++ {
			b := modelPack(sized(all, length))
			mustBeAsModel(t, b)
			if all > 65535 {
				mustRefuse(t, b, api.ErrMany)
			}
		}
	}
	b := modelPack(repeat(make([]byte, 4095), 64))
	mustRefuse(t, b, api.ErrMany)
	mustRefuse(t, append(b, 0, 0), api.ErrEnd)
	mustRefuse(t, append(b, 1), api.ErrShape)
}

// Where several errors hold, the one that is named first is answered; and part by part.
func TestOrderOfErrors(t *testing.T) {
	// Too few bytes for a delimiter, and nothing that fits.
	mustRefuse(t, []byte{0xff, 0xff, 0}, api.ErrEnd)
	mustRefuse(t, append(part("abcd"), 1, 2, 3), api.ErrEnd)
	// A sum that does not fit, and another mark, lowest bits, a length of 0, too few bytes.
	mustRefuse(t, []byte{0x10, 0, 0, 0, 'a'}, api.ErrSum)
	mustRefuse(t, []byte{0x11, 0, 0, 0x4e, 'a'}, api.ErrSum)
	mustRefuse(t, []byte{0, 0, 0, 0x4e, 'a'}, api.ErrSum)
	mustRefuse(t, []byte{0xf0, 0xff, 0, 0x4e, 'a'}, api.ErrSum)
	// Another shape, and too few bytes.
	mustRefuse(t, with(head(0xf0, 0xff), 3, 0), api.ErrShape)
	mustRefuse(t, head(0xf1, 0xff), api.ErrShape)
	mustRefuse(t, head(0x08, 0), api.ErrShape)
	mustRefuse(t, head(0, 0), api.ErrShape)
	// Zeros that are others, and too few bytes behind them, or a sum that does not fit.
	mustRefuse(t, append(part("a"), 1), api.ErrShape)
	mustRefuse(t, append(part("a"), 0, 0, 1), api.ErrShape)
	mustRefuse(t, append(part("a"), 0, 0, 1, 9, 9, 9, 9), api.ErrShape)
	mustRefuse(t, append(part("a"), 0, 0, 0, 1), api.ErrEnd)
	// The first part's is told, whatever the second one's is.
	mustRefuse(t, join(part("abc"), []byte{1}, []byte{0, 0, 0, 0}), api.ErrShape)
	mustRefuse(t, join(part("abcd"), []byte{0, 0, 0, 0}, head(0, 0)), api.ErrSum)
	mustRefuse(t, join(part("abcd"), head(0, 0), []byte{0, 0, 0, 0}), api.ErrShape)
	mustRefuse(t, join(part("abcd"), head(0xf0, 0), []byte{0, 0, 0, 0}), api.ErrEnd)
}

// P7.1: Unpack

func TestUnpackOfNothing(t *testing.T) {
	for n := range 4 {
		mustFind(t, make([]byte, n))
		mustFind(t, head(0x10, 0)[:n])
	}
	mustFind(t, nil)
	mustFind(t, bytes.Repeat([]byte{0x4e}, 1000))
	mustFind(t, make([]byte, 1000))
	mustFind(t, head(0x10, 0))
}

// What is lost takes no more with it than it has to.
func TestUnpackOfWhatIsBent(t *testing.T) {
	b := bytesOfPlain()
	mustFind(t, with(b, 0, 0), "NN", "xyz", "\x00N\x00\xff", "end")
	mustFind(t, with(b, 10, 0), "a", "xyz", "\x00N\x00\xff", "end")
	mustFind(t, with(b, 19, 0), "a", "NN", "\x00N\x00\xff", "end")
	mustFind(t, with(b, 24, head(0x41, 0)...), "a", "NN", "xyz", "end")
	mustFind(t, with(b, 24, head(0, 0)...), "a", "NN", "xyz", "end")
	mustFind(t, with(b, 32, head(0x40, 0)...), "a", "NN", "xyz", "\x00N\x00\xff")
	mustFind(t, with(b, 5, 1, 2, 3), "a", "NN", "xyz", "\x00N\x00\xff", "end")
	mustFind(t, with(b, 0, make([]byte, 32)...), "end")
	mustFind(t, with(b, 8, make([]byte, 24)...), "a", "end")
}

// A length that reaches over others takes them, if there is so much; else they are found.
func TestUnpackOfAnotherLength(t *testing.T) {
	b := bytesOfPlain()
	mustFind(t, with(b, 0, head(0x40, 0)...), "a\x00\x00\x00", "NN", "xyz", "\x00N\x00\xff", "end")
	mustFind(t, with(b, 0, head(0x50, 0)...), string(b[4:9]), "xyz", "\x00N\x00\xff", "end")
	mustFind(t, with(b, 0, head(0xc0, 0)...), string(b[4:16]), "xyz", "\x00N\x00\xff", "end")
	mustFind(t, with(b, 0, head(0x30, 2)...), string(b[4:]))
	mustFind(t, with(b, 0, head(0x40, 2)...), "NN", "xyz", "\x00N\x00\xff", "end")
	mustFind(t, with(b, 0, head(0xf0, 0xff)...), "NN", "xyz", "\x00N\x00\xff", "end")
	mustFind(t, with(b, 8, head(0xb0, 1)...), "a", string(b[12:]))
	mustFind(t, with(b, 8, head(0xc0, 1)...), "a", "xyz", "\x00N\x00\xff", "end")
}

// It goes on 4 bytes further, no more and no less.
func TestUnpackAtMultiplesOfFour(t *testing.T) {
	for n := range 40 {
		b := join(make([]byte, n), bytesOfPlain())
		if n%4 != 0 {
			mustFind(t, b)
		} else {
			mustFind(t, b, "a", "NN", "xyz", "\x00N\x00\xff", "end")
		}
	}
	// A delimiter right behind one that is none, and inside what that would have been.
	mustFind(t, join(head(0, 0), part("abc")), "abc")
	mustFind(t, join(head(0x81, 0), part("abcd")), "abcd")
	mustFind(t, join(head(0x90, 0), part("abcd")), "abcd")
	mustFind(t, join(head(0x80, 0), part("abcd")), string(part("abcd")))
}

// What may not be sent is found all the same: more parts, and more bytes.
func TestUnpackOfTooMany(t *testing.T) {
	for _, p := range []string{"a", "four"} {
		l := repeat([]byte(p), 1000)
		if got := Unpack(modelPack(l)); !same(got, l) {
			t.Errorf("Unpack of 1000 parts finds %d", len(got))
		}
	}
	l := repeat(make([]byte, 4095), 64)
	if got := Unpack(join(modelPack(l), make([]byte, 17), []byte{9})); !same(got, l) {
		t.Errorf("Unpack of 64 of the longest parts finds %d", len(got))
	}
}

// Each byte another one: as the chapter words it.
func TestEachByteAnotherOne(t *testing.T) {
	for at := range bytesOfPlain() {
		for c := range 256 {
			mustBeAsModel(t, with(bytesOfPlain(), at, byte(c)))
		}
	}
}

// P7.2

// some is parts of lengths and bytes that are drawn: many short ones, or few long ones.
func some(r *rand.Rand) [][]byte {
	n := 1 + r.Intn(64)
	most := min(4095, 65000/n-8)
	if r.Intn(2) == 0 {
		most = 1 + r.Intn(20)
	}
	var l [][]byte
	for range n {
		p := make([]byte, 1+r.Intn(most))
		r.Read(p)
		l = append(l, p)
	}
	return l
}

func TestPartsOfPack(t *testing.T) {
	r := rand.New(rand.NewSource(7))
	for range 1 << 9 {
		l := some(r)
		b := modelPack(l)
		mustBe(t, l, b)
		mustBeAsModel(t, b)
	}
}

// Pieces of what may be, in any order: some of that Parts takes, and of all of it Unpack has the same.
func TestUnpackOfWhatPartsTakes(t *testing.T) {
	pieces := [][]byte{part("a"), part("bc"), part("def"), part("four"), {0}, {0, 0}, {0, 0, 0}, {0, 0, 0, 0}, head(0x40, 0), head(0, 0), {1}}
	taken := 0
	for i := range 11 * 11 * 11 * 11 {
		b := join(pieces[i%11], pieces[i/11%11], pieces[i/121%11], pieces[i/1331])
		mustBeAsModel(t, b)
		if _, err := Parts(b); err == nil {
			taken++
		}
	}
	if taken == 0 {
		t.Error("Parts takes none")
	}
}

// What holds everywhere: memory.

func TestHandedInIsLeftAlone(t *testing.T) {
	room := append(bytesOfPlain(), 9, 8, 7)
	was := bytes.Clone(room)
	for n := range room {
		Parts(room[:n])
		Unpack(room[:n])
	}
	if !bytes.Equal(room, was) {
		t.Errorf("handed in %x, now %x", was, room)
	}
	// Parts in one memory, each with the next one behind its length.
	l := [][]byte{room[:5], room[5:6], room[6:20], room[20:], room[:0]}
	keep := clone(l)
	Pack(l[:4]...)
	Pack(l...)
	if !same(l, keep) || !bytes.Equal(room, was) {
		t.Errorf("handed in %x, now %x", keep, l)
	}
	sizes := []int{-1, 0, 5, 9}
	Len(sizes[:3]...)
	if !slices.Equal(sizes, []int{-1, 0, 5, 9}) {
		t.Errorf("handed in lengths, now %v", sizes)
	}
}

// What lies behind the length is not read: other bytes there change nothing.
func TestBehindTheLengthIsNotRead(t *testing.T) {
	for n := range len(bytesOfPlain()) + 1 {
		for _, behind := range []byte{0, 1, 0x4e, 0xff} {
			room := append(bytesOfPlain()[:n:n], behind, behind, behind, behind)
			mustBeAsModel(t, room[:n])
		}
		mustBeAsModel(t, bytesOfPlain()[:n])
	}
	if b, err := Pack([]byte("abcd")[:3], []byte("wxyz")[:1]); err != nil || !bytes.Equal(b, join(part("abc"), []byte{0}, part("w"))) {
		t.Errorf("Pack of parts with more behind them: %x, %v", b, err)
	}
}

// spoil writes into all of b's memory, spare room too.
func spoil(b []byte) {
	for i := range b[:cap(b)] {
		b[:cap(b)][i] ^= 0xff
	}
}

func TestPackIsNewMemory(t *testing.T) {
	for _, l := range [][][]byte{plain(), plain()[:1]} {
		want := modelPack(l)
		first, _ := Pack(l...)
		second, _ := Pack(l...)
		spoil(first)
		if third, _ := Pack(l...); !same(l, plain()[:len(l)]) || !bytes.Equal(second, want) || !bytes.Equal(third, want) {
			t.Errorf("written through an answer of Pack: %x, %x, %x", l, second, third)
		}
	}
}

func TestPartsAreNewMemory(t *testing.T) {
	parts := func(b []byte) [][]byte { l, _ := Parts(b); return l }
	for _, read := range []func([]byte) [][]byte{parts, Unpack} {
		b := bytesOfPlain()
		second := read(b)
		for at := range plain() {
			first := read(b)
			spoil(first[at])
			first[at] = plain()[at]
			if !same(first, plain()) {
				t.Errorf("written through part %d: %x", at, first)
			}
			for i := range first[:cap(first)] {
				first[:cap(first)][i] = []byte("?")
			}
		}
		if third := read(b); !same(second, plain()) || !same(third, plain()) || !bytes.Equal(b, bytesOfPlain()) {
			t.Errorf("written through an answer: %x, %x, %x", second, third, b)
		}
	}
}

// FuzzParts holds Parts and Unpack against what the chapter says, and against Pack.
func FuzzParts(f *testing.F) {
	f.Add(bytesOfPlain())
	f.Add(part("four"))
	f.Add(join(part("four"), part("a"), []byte{0, 0, 0}, part("b")))
	f.Add(append(make([]byte, 8), part("four")...))
	f.Add([]byte{})
	f.Fuzz(mustBeAsModel)
}
