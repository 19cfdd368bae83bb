package sta

import (
	"math"
	"math/bits"
	"slices"
	"strings"
	"testing"

	"muezzin/api"
)

// names are those of the stations that tests tell of, each by a letter; strangers those of addresses that no station has.
const (
	names     = "abcdefghijklmnopqrstuvwxyz"
	strangers = "012345"
)

// addrs are the addresses by their names: many of them differ in one byte, or in one bit, alone.
var addrs = map[byte]api.Addr{
	'a': {2},
	'b': {0, 0, 0, 0, 0, 1},
	'c': {254, 255, 255, 255, 255, 255},
	'd': {0, 1},
	'e': {2, 0, 0, 0, 0, 1},
	'f': {2, 1},
	'g': {2, 0, 1},
	'h': {2, 0, 0, 1},
	'i': {2, 0, 0, 0, 1},
	'j': {4},
	'k': {254},
	'l': {0, 255},
	'm': {0, 0, 1},
	'n': {0, 0, 0, 1},
	'o': {0, 0, 0, 0, 1},
	'p': {0, 0, 0, 0, 0, 128},
	'q': {128},
	'r': {2, 3, 4, 5, 6, 7},
	's': {2, 3, 4, 5, 7, 6},
	't': {4, 3, 2, 5, 6, 7},
	'u': {254, 255, 255, 255, 255, 254},
	'v': {0, 0, 0, 0, 0, 255},
	'w': {2, 2, 2, 2, 2, 2},
	'x': {2, 4, 6, 8, 10, 12},
	'y': {12, 10, 8, 6, 4, 2},
	'z': {64, 0, 0, 0, 0, 64},
	'0': {},
	'1': {1},
	'2': {3, 3, 4, 5, 6, 7},
	'3': {255, 255, 255, 255, 255, 255},
	'4': {1, 0, 0, 0, 0, 1},
	'5': {129},
}

func of(name byte) api.Addr { return addrs[name] }

// noAids is what is no station's number.
func noAids() []int {
	l := []int{0, -1, -2, -15, -16, -17, 17, 18, 31, 32, 33, 255, 256, 257, 65536, 65537, api.MaxAID, math.MinInt, math.MinInt + 1, math.MaxInt}
	if one := 1; bits.UintSize == 64 {
		// A half of it would be one.
		l = append(l, one<<32+1)
	}
	return l
}

// view is all that can be told of a table: of each number, from 1 on, the name of who has it ("." nobody), and its epoch.
type view struct {
	who    string
	epochs [16]int
}

// nothing is what is told of a table in which nobody ever was.
const nothing = "................"

// seen is a view of which the epochs are told by a digit each ('a' is ten).
func seen(who, epochs string) view {
	v := view{who: who}
	for i, c := range epochs {
		v.epochs[i] = strings.IndexRune("0123456789"+names, c)
	}
	return v
}

// came is the view where that number was given to the one with that name.
func (v view) came(aid int, name string) view {
	v = v.went(aid)
	v.who = v.who[:aid-1] + name + v.who[aid:]
	v.epochs[aid-1]++
	return v
}

// went is the view where nobody has that number.
func (v view) went(aid int) view {
	v.who = v.who[:aid-1] + "." + v.who[aid:]
	return v
}

// mustBe asks all that can be asked of a table.
func mustBe(t *testing.T, s *Table, want view) {
	t.Helper()
	var all []int
	for i, name := range []byte(want.who) {
		aid, there := i+1, name != '.'
		if there {
			all = append(all, aid)
		} else {
			name = '0'
		}
		if a, is := s.Addr(aid); is != there || a != of(name) {
			t.Fatalf("Addr(%d) is %v, %v, of %v", aid, a, is, want)
		}
		if n := s.Epoch(aid); n != want.epochs[i] {
			t.Fatalf("Epoch(%d) is %d, of %v", aid, n, want)
		}
	}
	if l := s.All(); !slices.Equal(l, all) {
		t.Fatalf("All is %v, of %v", l, want)
	}
	for _, name := range []byte(names + strangers) {
		aid := strings.IndexByte(want.who, name) + 1
		if n, is := s.Find(of(name)); n != aid || is != (aid > 0) {
			t.Fatalf("Find of %c is %d, %v, of %v", name, n, is, want)
		}
	}
	for _, aid := range noAids() {
		if a, is := s.Addr(aid); is || a != (api.Addr{}) || s.Epoch(aid) != 0 {
			t.Fatalf("%d is %v, %v, %d", aid, a, is, s.Epoch(aid))
		}
	}
}

// mustAdd asks which number one gets, and that nothing else changes.
func mustAdd(t *testing.T, s *Table, v view, name string, aid int) view {
	t.Helper()
	if n, err := s.Add(of(name[0])); n != aid || err != nil {
		t.Fatalf("Add of %s is %d, %v, not %d, of %v", name, n, err, aid, v)
	}
	v = v.came(aid, name)
	mustBe(t, s, v)
	return v
}

// mustDel takes a number out, and asks that nothing else changes.
func mustDel(t *testing.T, s *Table, v view, aid int) view {
	t.Helper()
	if err := s.Del(aid); err != nil {
		t.Fatalf("Del(%d) is %v, of %v", aid, err, v)
	}
	v = v.went(aid)
	mustBe(t, s, v)
	return v
}

// mustNotAdd asks why one gets no number, and that nothing changes.
func mustNotAdd(t *testing.T, s *Table, v view, name string, why error) {
	t.Helper()
	if n, err := s.Add(of(name[0])); n != 0 || err != why {
		t.Fatalf("Add of %s is %d, %v, not %v, of %v", name, n, err, why, v)
	}
	mustBe(t, s, v)
}

// mustNotDel asks that nobody has that number, and that nothing changes.
func mustNotDel(t *testing.T, s *Table, v view, aid int) {
	t.Helper()
	if err := s.Del(aid); err != api.ErrNone {
		t.Fatalf("Del(%d) is %v, of %v", aid, err, v)
	}
	mustBe(t, s, v)
}

// mustNotAny asks that what is told wrong changes nothing: strangers, who is there already, who is not there, what is no number.
func mustNotAny(t *testing.T, s *Table, v view) {
	t.Helper()
	for _, name := range strangers {
		mustNotAdd(t, s, v, string(name), api.ErrRange)
	}
	for _, aid := range noAids() {
		mustNotDel(t, s, v, aid)
	}
	for i, name := range v.who {
		if name == '.' {
			mustNotDel(t, s, v, i+1)
		} else {
			mustNotAdd(t, s, v, string(name), api.ErrTwice)
		}
	}
	if !strings.Contains(v.who, ".") {
		for _, name := range names {
			if !strings.ContainsRune(v.who, name) {
				mustNotAdd(t, s, v, string(name), api.ErrFull)
			}
		}
	}
}

// put is a table into which these came, from 1 on.
func put(t *testing.T, l string) (*Table, view) {
	t.Helper()
	s, v := new(Table), view{who: nothing}
	for i := range l {
		v = mustAdd(t, s, v, l[i:i+1], i+1)
	}
	return s, v
}

// some is a table with gaps, of which some numbers were had once and some more often.
func some(t *testing.T) (*Table, view) {
	t.Helper()
	s, v := put(t, "abcdefgh")
	for _, aid := range []int{1, 3, 4, 8} {
		v = mustDel(t, s, v, aid)
	}
	v = mustAdd(t, s, v, "i", 1)
	v = mustAdd(t, s, v, "d", 3)
	v = mustDel(t, s, v, 1)
	v = mustAdd(t, s, v, "a", 1)
	v = mustDel(t, s, v, 5)
	if want := seen("abd..fg.........", "3121111100000000"); v != want {
		t.Fatal(v, want)
	}
	return s, v
}

// full is a table with all that may be there.
func full(t *testing.T) (*Table, view) {
	t.Helper()
	s, v := put(t, names[:16])
	if want := seen("abcdefghijklmnop", "1111111111111111"); v != want {
		t.Fatal(v, want)
	}
	return s, v
}

func TestZero(t *testing.T) {
	var s Table
	mustBe(t, &s, view{who: nothing})
	if l := s.All(); len(l) != 0 {
		t.Error(l)
	}
	mustNotAny(t, &s, view{who: nothing})
	mustBe(t, s.Clone(), view{who: nothing})
	mustAdd(t, s.Clone(), view{who: nothing}, "a", 1)
	mustAdd(t, new(Table).Clone(), view{who: nothing}, "a", 1)
	mustBe(t, &s, view{who: nothing})
}

// TestTwoOfThem: what one is told, another one does not know.
func TestTwoOfThem(t *testing.T) {
	s, v := some(t)
	var other Table
	mustBe(t, &other, view{who: nothing})
	full(t)
	mustBe(t, s, v)
}

// mustTake asks whether an address may be a station's, of a table with nobody in it.
func mustTake(t *testing.T, a api.Addr, may bool) {
	t.Helper()
	var s Table
	aid, err := s.Add(a)
	n, found := s.Find(a)
	b, is := s.Addr(1)
	switch {
	case may && (aid != 1 || err != nil || n != 1 || !found || b != a || !is || !slices.Equal(s.All(), []int{1}) || s.Epoch(1) != 1):
		t.Fatal(a, aid, err, n, found, b, is, s.All(), s.Epoch(1))
	case !may && (aid != 0 || err != api.ErrRange || n != 0 || found || b != api.Addr{} || is || len(s.All()) != 0 || s.Epoch(1) != 0):
		t.Fatal(a, aid, err, n, found, b, is, s.All(), s.Epoch(1))
	}
}

// TestAddresses: which may be a station's: of each first byte, with nothing behind it and with something; of each bit alone.
func TestAddresses(t *testing.T) {
	for first := range 256 {
		one := byte(first)
		odd := strings.ContainsRune("13579", rune('0'+first%10))
		mustTake(t, api.Addr{one}, first != 0 && !odd)
		for _, other := range []byte{1, 2, 128, 254, 255} {
			for at := 1; at < 6; at++ {
				a := api.Addr{one}
				a[at] = other
				mustTake(t, a, !odd)
			}
			mustTake(t, api.Addr{one, other, other, other, other, other}, !odd)
		}
	}
	for bit := range 48 {
		var a api.Addr
		a[bit/8] = 1 << (bit % 8)
		mustTake(t, a, bit != 0)
		b := api.Addr{255, 255, 255, 255, 255, 255}
		b[bit/8] -= 1 << (bit % 8)
		mustTake(t, b, bit == 0)
	}
}

// TestAddOutOfRange: it is told ahead of all else, and changes nothing: where nobody is, where some are, where all are.
func TestAddOutOfRange(t *testing.T) {
	s1, v1 := some(t)
	s2, v2 := full(t)
	for i, s := range []*Table{new(Table), s1, s2} {
		v := []view{{who: nothing}, v1, v2}[i]
		for _, name := range strangers {
			mustNotAdd(t, s, v, string(name), api.ErrRange)
		}
		for first := 1; first < 256; first += 2 {
			for _, name := range []byte(names) {
				a := of(name)
				a[0] = byte(first)
				if n, err := s.Add(a); n != 0 || err != api.ErrRange {
					t.Fatal(a, n, err)
				}
				if n, is := s.Find(a); n != 0 || is {
					t.Fatal(a, n, is)
				}
			}
		}
		mustBe(t, s, v)
	}
}

// TestAddTwice: who is there, at whichever number; it is told ahead of that there is no room.
func TestAddTwice(t *testing.T) {
	for n := 1; n <= 16; n++ {
		s, v := put(t, names[:n])
		for _, name := range names[:n] {
			mustNotAdd(t, s, v, string(name), api.ErrTwice)
		}
	}
	s, v := some(t)
	for _, name := range "abdfg" {
		// There is a number below some of theirs that nobody has: theirs stay.
		mustNotAdd(t, s, v, string(name), api.ErrTwice)
	}
}

// TestAddAll: each gets the next number, up to the last one; then there is no room, till one goes.
func TestAddAll(t *testing.T) {
	for _, l := range []string{names[:17], names[9:], "zyxwvutsrqponmlkj", "bdfhjlnprtvxzacegi"} {
		s, v := put(t, l[:16])
		if want := seen(l[:16], "1111111111111111"); v != want {
			t.Fatal(v, want)
		}
		mustNotAny(t, s, v)
		mustNotAdd(t, s, v, l[16:17], api.ErrFull)
		for aid := 1; aid <= 16; aid++ {
			c := s.Clone()
			u := mustDel(t, c, v, aid)
			u = mustAdd(t, c, u, l[16:17], aid)
			mustNotAdd(t, c, u, l[aid-1:aid], api.ErrFull)
			mustNotAny(t, c, u)
		}
		mustBe(t, s, v)
	}
}

// TestDel: each of a table with some, and with all, in several orders; who is gone is there no more.
func TestDel(t *testing.T) {
	s, v := full(t)
	for _, order := range [][]int{
		{1, 2, 3, 4, 5, 6, 7, 8, 9, 10, 11, 12, 13, 14, 15, 16},
		{16, 15, 14, 13, 12, 11, 10, 9, 8, 7, 6, 5, 4, 3, 2, 1},
		{8, 16, 1, 9, 2, 15, 7, 10, 3, 14, 6, 11, 4, 13, 5, 12},
	} {
		c, u := s.Clone(), v
		for _, aid := range order {
			u = mustDel(t, c, u, aid)
			mustNotDel(t, c, u, aid)
		}
		mustNotAny(t, c, u)
		if want := seen(nothing, "1111111111111111"); u != want {
			t.Fatal(u, want)
		}
	}
	mustBe(t, s, v)
	s, v = some(t)
	for _, aid := range []int{6, 1, 7, 3, 2} {
		v = mustDel(t, s, v, aid)
		mustNotAny(t, s, v)
	}
	if want := seen(nothing, "3121111100000000"); v != want {
		t.Fatal(v, want)
	}
}

// TestDelOfNone: what is no number, a number that nobody has, one that nobody ever had.
func TestDelOfNone(t *testing.T) {
	s1, v1 := some(t)
	s2, v2 := full(t)
	for _, aid := range append(noAids(), 4, 5, 8, 9, 10, 15, 16) {
		mustNotDel(t, s1, v1, aid)
	}
	for _, aid := range noAids() {
		mustNotDel(t, s2, v2, aid)
	}
	for aid := 1; aid <= 16; aid++ {
		mustNotDel(t, new(Table), view{who: nothing}, aid)
	}
}

// TestLeast: behind each one of the sets that may have gone, those that come get the least numbers, in turn.
func TestLeast(t *testing.T) {
	s, _ := full(t)
	for gone := range 1 << 16 {
		c := s.Clone()
		for aid := 16; aid >= 1; aid-- {
			if gone>>(aid-1)&1 == 1 && c.Del(aid) != nil {
				t.Fatal(gone, aid)
			}
		}
		next := byte(100)
		for aid := 1; aid <= 16; aid++ {
			if gone>>(aid-1)&1 == 0 {
				continue
			}
			next++
			if n, err := c.Add(api.Addr{2, next, next}); n != aid || err != nil || c.Epoch(aid) != 2 {
				t.Fatal(gone, aid, n, err, c.Epoch(aid))
			}
		}
		if n, err := c.Add(api.Addr{2, 200, 200}); n != 0 || err != api.ErrFull {
			t.Fatal(gone, n, err)
		}
	}
}

// TestLeastBehindSeveral: which number the next one gets does not hang on the order in which they went.
func TestLeastBehindSeveral(t *testing.T) {
	for _, gone := range [][]int{{2, 5, 9}, {9, 5, 2}, {5, 2, 9}, {5, 9, 2}, {9, 2, 5}, {2, 9, 5}} {
		s, v := full(t)
		for _, aid := range gone {
			v = mustDel(t, s, v, aid)
		}
		v = mustAdd(t, s, v, "z", 2)
		v = mustAdd(t, s, v, "i", 5)
		v = mustDel(t, s, v, 1)
		v = mustAdd(t, s, v, "b", 1)
		v = mustAdd(t, s, v, "a", 9)
		mustNotAdd(t, s, v, "e", api.ErrFull)
		if want := seen("bzcdifghajklmnop", "2211211121111111"); v != want {
			t.Fatal(v, want)
		}
	}
}

// TestEpoch: it counts whoever has the number, stays behind Del, and is of that number alone.
func TestEpoch(t *testing.T) {
	s, v := put(t, "abc")
	for _, x := range []struct {
		name  string
		epoch int
	}{{"b", 2}, {"b", 3}, {"d", 4}, {"z", 5}, {"b", 6}} {
		v = mustDel(t, s, v, 2)
		if n := s.Epoch(2); n != x.epoch-1 {
			t.Fatal(n, x)
		}
		v = mustAdd(t, s, v, x.name, 2)
		if n := s.Epoch(2); n != x.epoch {
			t.Fatal(n, x)
		}
	}
	v = mustAdd(t, s, v, "e", 4)
	v = mustDel(t, s, v, 2)
	v = mustDel(t, s, v, 1)
	// One that comes again under another number has that one's epoch.
	v = mustAdd(t, s, v, "b", 1)
	v = mustAdd(t, s, v, "a", 2)
	if want := seen("bace............", "2711000000000000"); v != want {
		t.Fatal(v, want)
	}
	mustNotAny(t, s, v)
}

// TestEpochsRise: of each number, over many comings.
func TestEpochsRise(t *testing.T) {
	for aid := 1; aid <= 16; aid++ {
		s, v := put(t, names[:aid])
		for n := 1; n <= 20000; n++ {
			if now := s.Epoch(aid); now != n {
				t.Fatal(aid, now, n)
			}
			if s.Del(aid) != nil {
				t.Fatal(aid, n)
			}
			if got, err := s.Add(of(names[aid-1+n%2])); got != aid || err != nil {
				t.Fatal(aid, got, err)
			}
		}
		v.epochs[aid-1] = 20001
		mustBe(t, s, v)
	}
	s, v := put(t, "a")
	for range 1 << 17 {
		if n, err := s.Add(of('b')); n != 2 || err != nil || s.Del(2) != nil {
			t.Fatal(n, err)
		}
	}
	v.epochs[1] = 1 << 17
	mustBe(t, s, v)
}

// TestFind: who is there, alone; not one that differs in one byte, not one that is gone; by another number, if it came again.
func TestFind(t *testing.T) {
	for _, name := range []byte(names) {
		var s Table
		if n, err := s.Add(of(name)); n != 1 || err != nil {
			t.Fatal(n, err)
		}
		for at := range 6 {
			for by := 1; by < 256; by++ {
				a := of(name)
				a[at] += byte(by)
				if n, is := s.Find(a); n != 0 || is {
					t.Fatal(a, n, is)
				}
			}
		}
		if n, is := s.Find(of(name)); n != 1 || !is {
			t.Fatal(name, n, is)
		}
	}
	s, v := put(t, "abc")
	v = mustDel(t, s, v, 3)
	v = mustDel(t, s, v, 1)
	v = mustAdd(t, s, v, "c", 1)
	v = mustAdd(t, s, v, "a", 3)
	for i, name := range []byte("cba") {
		if n, is := s.Find(of(name)); n != i+1 || !is {
			t.Fatal(name, n, is)
		}
	}
	v = mustDel(t, s, v, 1)
	if n, is := s.Find(of('c')); n != 0 || is {
		t.Fatal(n, is)
	}
	// All is 0 where nobody is; it is nobody's all the same.
	if n, is := s.Find(api.Addr{}); n != 0 || is {
		t.Fatal(n, is)
	}
	mustBe(t, s, v)
}

// TestAll: rising behind each coming and going.
func TestAll(t *testing.T) {
	var s Table
	for i, x := range []struct {
		call int
		name string
		aid  int
		all  []int
	}{
		{add, "z", 1, []int{1}},
		{add, "a", 2, []int{1, 2}},
		{add, "m", 3, []int{1, 2, 3}},
		{del, "", 2, []int{1, 3}},
		{add, "b", 2, []int{1, 2, 3}},
		{del, "", 1, []int{2, 3}},
		{del, "", 3, []int{2}},
		{add, "c", 1, []int{1, 2}},
		{del, "", 2, []int{1}},
		{del, "", 1, nil},
		{add, "b", 1, []int{1}},
	} {
		aid, err := x.aid, error(nil)
		if x.call == add {
			aid, err = s.Add(of(x.name[0]))
		} else {
			err = s.Del(aid)
		}
		if l := s.All(); aid != x.aid || err != nil || !slices.Equal(l, x.all) {
			t.Fatal(i, aid, err, l)
		}
	}
}

// TestAllIsOwn: what All answered is the caller's, spare room too; it stays as it was told.
func TestAllIsOwn(t *testing.T) {
	for _, l := range []string{"", "a", "abc", names[:15], names[:16]} {
		s, v := put(t, l)
		c := s.Clone()
		l1, l2, l3 := s.All(), s.All(), c.All()
		want := slices.Clone(l2)
		for i := range l1 {
			l1[i] = 99
		}
		l1 = append(l1, 98, 97)
		room := l1[:cap(l1)]
		for i := range room {
			room[i] = 96
		}
		if !slices.Equal(l2, want) || !slices.Equal(l3, want) {
			t.Fatal(l2, l3, want)
		}
		mustBe(t, s, v)
		mustBe(t, c, v)
		if len(l) > 0 {
			mustDel(t, s, v, 1)
		} else {
			mustAdd(t, s, v, "z", 1)
		}
		if !slices.Equal(l2, want) || !slices.Equal(l3, want) {
			t.Fatal(l2, l3, want)
		}
	}
}

// TestWrongChangesNothing: what is told wrong, in tables of all kinds; then they go on as if it had not been told.
func TestWrongChangesNothing(t *testing.T) {
	s, v := some(t)
	mustNotAny(t, s, v)
	v = mustAdd(t, s, v, "z", 4)
	mustNotAny(t, s, v)
	v = mustAdd(t, s, v, "e", 5)
	v = mustAdd(t, s, v, "y", 8)
	v = mustAdd(t, s, v, "x", 9)
	mustNotAny(t, s, v)
	if want := seen("abdzefgyx.......", "3122211210000000"); v != want {
		t.Fatal(v, want)
	}
	s, v = full(t)
	mustNotAny(t, s, v)
	v = mustDel(t, s, v, 16)
	mustNotAny(t, s, v)
	v = mustAdd(t, s, v, "q", 16)
	mustNotAny(t, s, v)
	if want := seen("abcdefghijklmnoq", "1111111111111112"); v != want {
		t.Fatal(v, want)
	}
}

// TestClone: a copy is as the one that it is of, and each goes its own way.
func TestClone(t *testing.T) {
	s, v := some(t)
	c, u := s.Clone(), v
	d, w := c.Clone(), v
	mustBe(t, c, u)
	mustBe(t, d, w)
	v = mustAdd(t, s, v, "z", 4)
	mustBe(t, c, u)
	u = mustAdd(t, c, u, "y", 4)
	u = mustAdd(t, c, u, "z", 5)
	mustBe(t, s, v)
	v = mustDel(t, s, v, 1)
	mustBe(t, c, u)
	u = mustDel(t, c, u, 2)
	mustBe(t, s, v)
	v = mustAdd(t, s, v, "x", 1)
	v = mustDel(t, s, v, 1)
	mustBe(t, c, u)
	mustBe(t, d, w)
	mustNotAny(t, d, w)
	mustBe(t, s, v)
	mustBe(t, c, u)
	f, x := full(t)
	g := f.Clone()
	y := mustDel(t, g, x, 7)
	y = mustAdd(t, g, y, "q", 7)
	mustNotAny(t, f, x)
	mustNotAny(t, g, y)
}

// The calls that a step may be.
const (
	add = iota
	del
)

// step is a call (Add of the one with that name, and the number that it answers; or Del of a number), its error, and what is
// told behind it: who has each number, and its epoch, a digit each ('a' is ten).
type step struct {
	call        int
	name        string
	aid         int
	err         error
	who, epochs string
}

// mustGo goes through steps that were worked out apart from the program, from the chapter's words.
func mustGo(t *testing.T, steps []step) {
	t.Helper()
	var s Table
	for i, x := range steps {
		aid, err := x.aid, error(nil)
		if x.call == add {
			aid, err = s.Add(of(x.name[0]))
		} else {
			err = s.Del(aid)
		}
		if aid != x.aid || err != x.err {
			t.Fatalf("step %d: %d, %v, not %d, %v", i, aid, err, x.aid, x.err)
		}
		mustBe(t, &s, seen(x.who, x.epochs))
	}
}

// TestStepsOfMany: all numbers come to be had, and go.
func TestStepsOfMany(t *testing.T) {
	mustGo(t, []step{
		{add, "c", 1, nil, "c...............", "1000000000000000"},
		{add, "q", 2, nil, "cq..............", "1100000000000000"},
		{add, "h", 3, nil, "cqh.............", "1110000000000000"},
		{add, "d", 4, nil, "cqhd............", "1111000000000000"},
		{add, "b", 5, nil, "cqhdb...........", "1111100000000000"},
		{add, "b", 0, api.ErrTwice, "cqhdb...........", "1111100000000000"},
		{add, "r", 6, nil, "cqhdbr..........", "1111110000000000"},
		{add, "f", 7, nil, "cqhdbrf.........", "1111111000000000"},
		{add, "c", 0, api.ErrTwice, "cqhdbrf.........", "1111111000000000"},
		{add, "1", 0, api.ErrRange, "cqhdbrf.........", "1111111000000000"},
		{add, "o", 8, nil, "cqhdbrfo........", "1111111100000000"},
		{add, "z", 9, nil, "cqhdbrfoz.......", "1111111110000000"},
		{add, "2", 0, api.ErrRange, "cqhdbrfoz.......", "1111111110000000"},
		{add, "j", 10, nil, "cqhdbrfozj......", "1111111111000000"},
		{add, "f", 0, api.ErrTwice, "cqhdbrfozj......", "1111111111000000"},
		{add, "b", 0, api.ErrTwice, "cqhdbrfozj......", "1111111111000000"},
		{add, "z", 0, api.ErrTwice, "cqhdbrfozj......", "1111111111000000"},
		{add, "t", 11, nil, "cqhdbrfozjt.....", "1111111111100000"},
		{add, "0", 0, api.ErrRange, "cqhdbrfozjt.....", "1111111111100000"},
		{add, "b", 0, api.ErrTwice, "cqhdbrfozjt.....", "1111111111100000"},
		{add, "v", 12, nil, "cqhdbrfozjtv....", "1111111111110000"},
		{add, "v", 0, api.ErrTwice, "cqhdbrfozjtv....", "1111111111110000"},
		{del, "", 10, nil, "cqhdbrfoz.tv....", "1111111111110000"},
		{add, "e", 10, nil, "cqhdbrfozetv....", "1111111112110000"},
		{add, "p", 13, nil, "cqhdbrfozetvp...", "1111111112111000"},
		{add, "e", 0, api.ErrTwice, "cqhdbrfozetvp...", "1111111112111000"},
		{add, "n", 14, nil, "cqhdbrfozetvpn..", "1111111112111100"},
		{add, "h", 0, api.ErrTwice, "cqhdbrfozetvpn..", "1111111112111100"},
		{add, "h", 0, api.ErrTwice, "cqhdbrfozetvpn..", "1111111112111100"},
		{add, "e", 0, api.ErrTwice, "cqhdbrfozetvpn..", "1111111112111100"},
		{add, "e", 0, api.ErrTwice, "cqhdbrfozetvpn..", "1111111112111100"},
		{add, "v", 0, api.ErrTwice, "cqhdbrfozetvpn..", "1111111112111100"},
		{add, "v", 0, api.ErrTwice, "cqhdbrfozetvpn..", "1111111112111100"},
		{add, "d", 0, api.ErrTwice, "cqhdbrfozetvpn..", "1111111112111100"},
		{add, "d", 0, api.ErrTwice, "cqhdbrfozetvpn..", "1111111112111100"},
		{add, "d", 0, api.ErrTwice, "cqhdbrfozetvpn..", "1111111112111100"},
		{del, "", 10, nil, "cqhdbrfoz.tvpn..", "1111111112111100"},
		{del, "", 9, nil, "cqhdbrfo..tvpn..", "1111111112111100"},
		{del, "", 2, nil, "c.hdbrfo..tvpn..", "1111111112111100"},
		{del, "", 11, nil, "c.hdbrfo...vpn..", "1111111112111100"},
		{add, "x", 2, nil, "cxhdbrfo...vpn..", "1211111112111100"},
		{del, "", 1, nil, ".xhdbrfo...vpn..", "1211111112111100"},
		{del, "", 13, nil, ".xhdbrfo...v.n..", "1211111112111100"},
		{del, "", 3, nil, ".x.dbrfo...v.n..", "1211111112111100"},
		{add, "f", 0, api.ErrTwice, ".x.dbrfo...v.n..", "1211111112111100"},
		{add, "q", 1, nil, "qx.dbrfo...v.n..", "2211111112111100"},
		{add, "y", 3, nil, "qxydbrfo...v.n..", "2221111112111100"},
		{del, "", 4, nil, "qxy.brfo...v.n..", "2221111112111100"},
		{del, "", 1, nil, ".xy.brfo...v.n..", "2221111112111100"},
		{del, "", 12, nil, ".xy.brfo.....n..", "2221111112111100"},
		{del, "", 5, nil, ".xy..rfo.....n..", "2221111112111100"},
		{add, "k", 1, nil, "kxy..rfo.....n..", "3221111112111100"},
		{del, "", 14, nil, "kxy..rfo........", "3221111112111100"},
		{add, "v", 4, nil, "kxyv.rfo........", "3222111112111100"},
		{add, "g", 5, nil, "kxyvgrfo........", "3222211112111100"},
		{add, "k", 0, api.ErrTwice, "kxyvgrfo........", "3222211112111100"},
		{del, "", 8, nil, "kxyvgrf.........", "3222211112111100"},
		{del, "", 2, nil, "k.yvgrf.........", "3222211112111100"},
		{add, "o", 2, nil, "koyvgrf.........", "3322211112111100"},
		{add, "p", 8, nil, "koyvgrfp........", "3322211212111100"},
		{add, "e", 9, nil, "koyvgrfpe.......", "3322211222111100"},
		{add, "e", 0, api.ErrTwice, "koyvgrfpe.......", "3322211222111100"},
		{add, "g", 0, api.ErrTwice, "koyvgrfpe.......", "3322211222111100"},
		{add, "s", 10, nil, "koyvgrfpes......", "3322211223111100"},
		{del, "", 1, nil, ".oyvgrfpes......", "3322211223111100"},
		{del, "", 10, nil, ".oyvgrfpe.......", "3322211223111100"},
		{del, "", 4, nil, ".oy.grfpe.......", "3322211223111100"},
		{add, "f", 0, api.ErrTwice, ".oy.grfpe.......", "3322211223111100"},
		{del, "", 5, nil, ".oy..rfpe.......", "3322211223111100"},
		{del, "", 6, nil, ".oy...fpe.......", "3322211223111100"},
		{del, "", 2, nil, "..y...fpe.......", "3322211223111100"},
		{add, "y", 0, api.ErrTwice, "..y...fpe.......", "3322211223111100"},
		{del, "", 3, nil, "......fpe.......", "3322211223111100"},
		{del, "", 9, nil, "......fp........", "3322211223111100"},
		{add, "z", 1, nil, "z.....fp........", "4322211223111100"},
		{del, "", 7, nil, "z......p........", "4322211223111100"},
		{del, "", 8, nil, "z...............", "4322211223111100"},
		{add, "c", 2, nil, "zc..............", "4422211223111100"},
		{del, "", 2, nil, "z...............", "4422211223111100"},
		{del, "", 12, api.ErrNone, "z...............", "4422211223111100"},
		{del, "", 1, nil, "................", "4422211223111100"},
		{add, "f", 1, nil, "f...............", "5422211223111100"},
		{del, "", 14, api.ErrNone, "f...............", "5422211223111100"},
		{del, "", 1, nil, "................", "5422211223111100"},
		{del, "", -16, api.ErrNone, "................", "5422211223111100"},
		{del, "", 10, api.ErrNone, "................", "5422211223111100"},
		{add, "z", 1, nil, "z...............", "6422211223111100"},
		{del, "", 16, api.ErrNone, "z...............", "6422211223111100"},
		{add, "z", 0, api.ErrTwice, "z...............", "6422211223111100"},
		{del, "", 1, nil, "................", "6422211223111100"},
		{del, "", 11, api.ErrNone, "................", "6422211223111100"},
		{add, "n", 1, nil, "n...............", "7422211223111100"},
		{add, "0", 0, api.ErrRange, "n...............", "7422211223111100"},
		{add, "c", 2, nil, "nc..............", "7522211223111100"},
		{add, "4", 0, api.ErrRange, "nc..............", "7522211223111100"},
		{del, "", 1, nil, ".c..............", "7522211223111100"},
		{add, "c", 0, api.ErrTwice, ".c..............", "7522211223111100"},
		{add, "u", 1, nil, "uc..............", "8522211223111100"},
		{del, "", 1, nil, ".c..............", "8522211223111100"},
		{del, "", 2, nil, "................", "8522211223111100"},
		{add, "q", 1, nil, "q...............", "9522211223111100"},
		{del, "", 14, api.ErrNone, "q...............", "9522211223111100"},
		{add, "q", 0, api.ErrTwice, "q...............", "9522211223111100"},
		{add, "g", 2, nil, "qg..............", "9622211223111100"},
		{add, "m", 3, nil, "qgm.............", "9632211223111100"},
		{del, "", 1, nil, ".gm.............", "9632211223111100"},
		{add, "f", 1, nil, "fgm.............", "a632211223111100"},
		{add, "q", 4, nil, "fgmq............", "a633211223111100"},
		{add, "j", 5, nil, "fgmqj...........", "a633311223111100"},
		{add, "i", 6, nil, "fgmqji..........", "a633321223111100"},
		{add, "k", 7, nil, "fgmqjik.........", "a633322223111100"},
		{del, "", 3, nil, "fg.qjik.........", "a633322223111100"},
		{add, "2", 0, api.ErrRange, "fg.qjik.........", "a633322223111100"},
		{add, "a", 3, nil, "fgaqjik.........", "a643322223111100"},
		{del, "", 2, nil, "f.aqjik.........", "a643322223111100"},
		{add, "c", 2, nil, "fcaqjik.........", "a743322223111100"},
		{del, "", 6, nil, "fcaqj.k.........", "a743322223111100"},
		{del, "", 3, nil, "fc.qj.k.........", "a743322223111100"},
		{del, "", 7, nil, "fc.qj...........", "a743322223111100"},
		{add, "q", 0, api.ErrTwice, "fc.qj...........", "a743322223111100"},
		{del, "", 2, nil, "f..qj...........", "a743322223111100"},
		{del, "", 1, nil, "...qj...........", "a743322223111100"},
		{del, "", 4, nil, "....j...........", "a743322223111100"},
		{add, "d", 1, nil, "d...j...........", "b743322223111100"},
		{del, "", 0, api.ErrNone, "d...j...........", "b743322223111100"},
		{del, "", 1, nil, "....j...........", "b743322223111100"},
		{add, "r", 1, nil, "r...j...........", "c743322223111100"},
		{del, "", 5, nil, "r...............", "c743322223111100"},
		{add, "x", 2, nil, "rx..............", "c843322223111100"},
		{add, "o", 3, nil, "rxo.............", "c853322223111100"},
		{del, "", 3, nil, "rx..............", "c853322223111100"},
		{add, "g", 3, nil, "rxg.............", "c863322223111100"},
		{add, "x", 0, api.ErrTwice, "rxg.............", "c863322223111100"},
		{del, "", 16, api.ErrNone, "rxg.............", "c863322223111100"},
		{add, "w", 4, nil, "rxgw............", "c864322223111100"},
		{del, "", 3, nil, "rx.w............", "c864322223111100"},
		{del, "", 7, api.ErrNone, "rx.w............", "c864322223111100"},
		{add, "j", 3, nil, "rxjw............", "c874322223111100"},
		{del, "", 4, nil, "rxj.............", "c874322223111100"},
		{del, "", 1, nil, ".xj.............", "c874322223111100"},
		{add, "i", 1, nil, "ixj.............", "d874322223111100"},
		{add, "q", 4, nil, "ixjq............", "d875322223111100"},
		{add, "p", 5, nil, "ixjqp...........", "d875422223111100"},
		{del, "", 0, api.ErrNone, "ixjqp...........", "d875422223111100"},
		{del, "", 2, nil, "i.jqp...........", "d875422223111100"},
		{del, "", 11, api.ErrNone, "i.jqp...........", "d875422223111100"},
		{del, "", 7, api.ErrNone, "i.jqp...........", "d875422223111100"},
		{del, "", 4, nil, "i.j.p...........", "d875422223111100"},
		{add, "c", 2, nil, "icj.p...........", "d975422223111100"},
		{add, "b", 4, nil, "icjbp...........", "d976422223111100"},
		{add, "u", 6, nil, "icjbpu..........", "d976432223111100"},
		{add, "q", 7, nil, "icjbpuq.........", "d976433223111100"},
		{del, "", 4, nil, "icj.puq.........", "d976433223111100"},
		{del, "", 6, nil, "icj.p.q.........", "d976433223111100"},
		{del, "", 1, nil, ".cj.p.q.........", "d976433223111100"},
		{del, "", 10, api.ErrNone, ".cj.p.q.........", "d976433223111100"},
		{del, "", 3, nil, ".c..p.q.........", "d976433223111100"},
		{add, "x", 1, nil, "xc..p.q.........", "e976433223111100"},
		{del, "", 2, nil, "x...p.q.........", "e976433223111100"},
		{add, "f", 2, nil, "xf..p.q.........", "ea76433223111100"},
		{add, "z", 3, nil, "xfz.p.q.........", "ea86433223111100"},
		{add, "y", 4, nil, "xfzyp.q.........", "ea87433223111100"},
		{add, "x", 0, api.ErrTwice, "xfzyp.q.........", "ea87433223111100"},
		{add, "l", 6, nil, "xfzyplq.........", "ea87443223111100"},
		{add, "x", 0, api.ErrTwice, "xfzyplq.........", "ea87443223111100"},
		{add, "g", 8, nil, "xfzyplqg........", "ea87443323111100"},
		{add, "2", 0, api.ErrRange, "xfzyplqg........", "ea87443323111100"},
		{add, "q", 0, api.ErrTwice, "xfzyplqg........", "ea87443323111100"},
		{del, "", 5, nil, "xfzy.lqg........", "ea87443323111100"},
		{add, "n", 5, nil, "xfzynlqg........", "ea87543323111100"},
		{del, "", 1, nil, ".fzynlqg........", "ea87543323111100"},
		{add, "z", 0, api.ErrTwice, ".fzynlqg........", "ea87543323111100"},
		{add, "3", 0, api.ErrRange, ".fzynlqg........", "ea87543323111100"},
		{del, "", 5, nil, ".fzy.lqg........", "ea87543323111100"},
		{add, "z", 0, api.ErrTwice, ".fzy.lqg........", "ea87543323111100"},
		{del, "", 15, api.ErrNone, ".fzy.lqg........", "ea87543323111100"},
		{del, "", -1, api.ErrNone, ".fzy.lqg........", "ea87543323111100"},
		{del, "", 4, nil, ".fz..lqg........", "ea87543323111100"},
		{del, "", 7, nil, ".fz..l.g........", "ea87543323111100"},
		{add, "4", 0, api.ErrRange, ".fz..l.g........", "ea87543323111100"},
		{add, "z", 0, api.ErrTwice, ".fz..l.g........", "ea87543323111100"},
		{add, "o", 1, nil, "ofz..l.g........", "fa87543323111100"},
		{add, "h", 4, nil, "ofzh.l.g........", "fa88543323111100"},
		{add, "n", 5, nil, "ofzhnl.g........", "fa88643323111100"},
		{add, "3", 0, api.ErrRange, "ofzhnl.g........", "fa88643323111100"},
		{del, "", -1, api.ErrNone, "ofzhnl.g........", "fa88643323111100"},
		{del, "", 1, nil, ".fzhnl.g........", "fa88643323111100"},
		{del, "", 5, nil, ".fzh.l.g........", "fa88643323111100"},
		{del, "", 8, nil, ".fzh.l..........", "fa88643323111100"},
		{add, "y", 1, nil, "yfzh.l..........", "ga88643323111100"},
		{add, "y", 0, api.ErrTwice, "yfzh.l..........", "ga88643323111100"},
		{add, "t", 5, nil, "yfzhtl..........", "ga88743323111100"},
		{add, "v", 7, nil, "yfzhtlv.........", "ga88744323111100"},
		{add, "b", 8, nil, "yfzhtlvb........", "ga88744423111100"},
		{del, "", 2, nil, "y.zhtlvb........", "ga88744423111100"},
		{add, "w", 2, nil, "ywzhtlvb........", "gb88744423111100"},
		{del, "", 3, nil, "yw.htlvb........", "gb88744423111100"},
		{add, "x", 3, nil, "ywxhtlvb........", "gb98744423111100"},
		{add, "l", 0, api.ErrTwice, "ywxhtlvb........", "gb98744423111100"},
		{add, "w", 0, api.ErrTwice, "ywxhtlvb........", "gb98744423111100"},
		{add, "d", 9, nil, "ywxhtlvbd.......", "gb98744433111100"},
		{del, "", 5, nil, "ywxh.lvbd.......", "gb98744433111100"},
		{add, "3", 0, api.ErrRange, "ywxh.lvbd.......", "gb98744433111100"},
		{add, "k", 5, nil, "ywxhklvbd.......", "gb98844433111100"},
		{del, "", 17, api.ErrNone, "ywxhklvbd.......", "gb98844433111100"},
		{del, "", 7, nil, "ywxhkl.bd.......", "gb98844433111100"},
		{del, "", -1, api.ErrNone, "ywxhkl.bd.......", "gb98844433111100"},
		{del, "", 5, nil, "ywxh.l.bd.......", "gb98844433111100"},
		{del, "", 1, nil, ".wxh.l.bd.......", "gb98844433111100"},
		{add, "a", 1, nil, "awxh.l.bd.......", "hb98844433111100"},
		{del, "", 1, nil, ".wxh.l.bd.......", "hb98844433111100"},
		{add, "o", 1, nil, "owxh.l.bd.......", "ib98844433111100"},
		{del, "", 4, nil, "owx..l.bd.......", "ib98844433111100"},
		{add, "a", 4, nil, "owxa.l.bd.......", "ib99844433111100"},
		{del, "", 9, nil, "owxa.l.b........", "ib99844433111100"},
		{add, "o", 0, api.ErrTwice, "owxa.l.b........", "ib99844433111100"},
		{del, "", -1, api.ErrNone, "owxa.l.b........", "ib99844433111100"},
		{add, "u", 5, nil, "owxaul.b........", "ib99944433111100"},
		{add, "a", 0, api.ErrTwice, "owxaul.b........", "ib99944433111100"},
		{del, "", 1, nil, ".wxaul.b........", "ib99944433111100"},
		{add, "o", 1, nil, "owxaul.b........", "jb99944433111100"},
		{add, "v", 7, nil, "owxaulvb........", "jb99945433111100"},
		{add, "y", 9, nil, "owxaulvby.......", "jb99945443111100"},
		{add, "s", 10, nil, "owxaulvbys......", "jb99945444111100"},
		{add, "o", 0, api.ErrTwice, "owxaulvbys......", "jb99945444111100"},
		{add, "s", 0, api.ErrTwice, "owxaulvbys......", "jb99945444111100"},
		{add, "h", 11, nil, "owxaulvbysh.....", "jb99945444211100"},
		{add, "u", 0, api.ErrTwice, "owxaulvbysh.....", "jb99945444211100"},
		{add, "1", 0, api.ErrRange, "owxaulvbysh.....", "jb99945444211100"},
		{del, "", 16, api.ErrNone, "owxaulvbysh.....", "jb99945444211100"},
		{add, "s", 0, api.ErrTwice, "owxaulvbysh.....", "jb99945444211100"},
		{add, "f", 12, nil, "owxaulvbyshf....", "jb99945444221100"},
		{add, "a", 0, api.ErrTwice, "owxaulvbyshf....", "jb99945444221100"},
		{add, "g", 13, nil, "owxaulvbyshfg...", "jb99945444222100"},
		{add, "i", 14, nil, "owxaulvbyshfgi..", "jb99945444222200"},
		{add, "a", 0, api.ErrTwice, "owxaulvbyshfgi..", "jb99945444222200"},
		{add, "t", 15, nil, "owxaulvbyshfgit.", "jb99945444222210"},
		{add, "r", 16, nil, "owxaulvbyshfgitr", "jb99945444222211"},
		{add, "v", 0, api.ErrTwice, "owxaulvbyshfgitr", "jb99945444222211"},
		{add, "1", 0, api.ErrRange, "owxaulvbyshfgitr", "jb99945444222211"},
		{add, "v", 0, api.ErrTwice, "owxaulvbyshfgitr", "jb99945444222211"},
		{del, "", 12, nil, "owxaulvbysh.gitr", "jb99945444222211"},
		{add, "z", 12, nil, "owxaulvbyshzgitr", "jb99945444232211"},
		{add, "g", 0, api.ErrTwice, "owxaulvbyshzgitr", "jb99945444232211"},
		{add, "a", 0, api.ErrTwice, "owxaulvbyshzgitr", "jb99945444232211"},
		{add, "o", 0, api.ErrTwice, "owxaulvbyshzgitr", "jb99945444232211"},
		{add, "1", 0, api.ErrRange, "owxaulvbyshzgitr", "jb99945444232211"},
		{del, "", -16, api.ErrNone, "owxaulvbyshzgitr", "jb99945444232211"},
		{add, "z", 0, api.ErrTwice, "owxaulvbyshzgitr", "jb99945444232211"},
		{add, "d", 0, api.ErrFull, "owxaulvbyshzgitr", "jb99945444232211"},
		{add, "z", 0, api.ErrTwice, "owxaulvbyshzgitr", "jb99945444232211"},
		{add, "p", 0, api.ErrFull, "owxaulvbyshzgitr", "jb99945444232211"},
		{add, "c", 0, api.ErrFull, "owxaulvbyshzgitr", "jb99945444232211"},
		{add, "f", 0, api.ErrFull, "owxaulvbyshzgitr", "jb99945444232211"},
		{add, "t", 0, api.ErrTwice, "owxaulvbyshzgitr", "jb99945444232211"},
		{add, "v", 0, api.ErrTwice, "owxaulvbyshzgitr", "jb99945444232211"},
		{add, "e", 0, api.ErrFull, "owxaulvbyshzgitr", "jb99945444232211"},
		{add, "b", 0, api.ErrTwice, "owxaulvbyshzgitr", "jb99945444232211"},
		{add, "v", 0, api.ErrTwice, "owxaulvbyshzgitr", "jb99945444232211"},
		{add, "r", 0, api.ErrTwice, "owxaulvbyshzgitr", "jb99945444232211"},
		{add, "j", 0, api.ErrFull, "owxaulvbyshzgitr", "jb99945444232211"},
		{add, "o", 0, api.ErrTwice, "owxaulvbyshzgitr", "jb99945444232211"},
		{add, "3", 0, api.ErrRange, "owxaulvbyshzgitr", "jb99945444232211"},
		{add, "o", 0, api.ErrTwice, "owxaulvbyshzgitr", "jb99945444232211"},
		{add, "c", 0, api.ErrFull, "owxaulvbyshzgitr", "jb99945444232211"},
		{add, "3", 0, api.ErrRange, "owxaulvbyshzgitr", "jb99945444232211"},
		{add, "1", 0, api.ErrRange, "owxaulvbyshzgitr", "jb99945444232211"},
		{add, "q", 0, api.ErrFull, "owxaulvbyshzgitr", "jb99945444232211"},
		{add, "u", 0, api.ErrTwice, "owxaulvbyshzgitr", "jb99945444232211"},
		{add, "t", 0, api.ErrTwice, "owxaulvbyshzgitr", "jb99945444232211"},
		{add, "r", 0, api.ErrTwice, "owxaulvbyshzgitr", "jb99945444232211"},
		{add, "v", 0, api.ErrTwice, "owxaulvbyshzgitr", "jb99945444232211"},
		{del, "", 16, nil, "owxaulvbyshzgit.", "jb99945444232211"},
		{add, "t", 0, api.ErrTwice, "owxaulvbyshzgit.", "jb99945444232211"},
		{add, "y", 0, api.ErrTwice, "owxaulvbyshzgit.", "jb99945444232211"},
		{add, "t", 0, api.ErrTwice, "owxaulvbyshzgit.", "jb99945444232211"},
		{add, "1", 0, api.ErrRange, "owxaulvbyshzgit.", "jb99945444232211"},
		{add, "k", 16, nil, "owxaulvbyshzgitk", "jb99945444232212"},
		{add, "d", 0, api.ErrFull, "owxaulvbyshzgitk", "jb99945444232212"},
		{add, "o", 0, api.ErrTwice, "owxaulvbyshzgitk", "jb99945444232212"},
		{add, "d", 0, api.ErrFull, "owxaulvbyshzgitk", "jb99945444232212"},
		{add, "x", 0, api.ErrTwice, "owxaulvbyshzgitk", "jb99945444232212"},
		{add, "s", 0, api.ErrTwice, "owxaulvbyshzgitk", "jb99945444232212"},
		{add, "1", 0, api.ErrRange, "owxaulvbyshzgitk", "jb99945444232212"},
		{add, "4", 0, api.ErrRange, "owxaulvbyshzgitk", "jb99945444232212"},
		{add, "s", 0, api.ErrTwice, "owxaulvbyshzgitk", "jb99945444232212"},
		{del, "", 2, nil, "o.xaulvbyshzgitk", "jb99945444232212"},
		{add, "n", 2, nil, "onxaulvbyshzgitk", "jc99945444232212"},
		{del, "", 8, nil, "onxaulv.yshzgitk", "jc99945444232212"},
		{add, "4", 0, api.ErrRange, "onxaulv.yshzgitk", "jc99945444232212"},
		{add, "h", 0, api.ErrTwice, "onxaulv.yshzgitk", "jc99945444232212"},
		{add, "l", 0, api.ErrTwice, "onxaulv.yshzgitk", "jc99945444232212"},
		{add, "k", 0, api.ErrTwice, "onxaulv.yshzgitk", "jc99945444232212"},
		{add, "c", 8, nil, "onxaulvcyshzgitk", "jc99945544232212"},
		{add, "m", 0, api.ErrFull, "onxaulvcyshzgitk", "jc99945544232212"},
		{del, "", -16, api.ErrNone, "onxaulvcyshzgitk", "jc99945544232212"},
		{add, "t", 0, api.ErrTwice, "onxaulvcyshzgitk", "jc99945544232212"},
		{add, "a", 0, api.ErrTwice, "onxaulvcyshzgitk", "jc99945544232212"},
		{add, "l", 0, api.ErrTwice, "onxaulvcyshzgitk", "jc99945544232212"},
		{add, "4", 0, api.ErrRange, "onxaulvcyshzgitk", "jc99945544232212"},
		{add, "q", 0, api.ErrFull, "onxaulvcyshzgitk", "jc99945544232212"},
		{add, "t", 0, api.ErrTwice, "onxaulvcyshzgitk", "jc99945544232212"},
		{add, "b", 0, api.ErrFull, "onxaulvcyshzgitk", "jc99945544232212"},
		{add, "r", 0, api.ErrFull, "onxaulvcyshzgitk", "jc99945544232212"},
		{del, "", 15, nil, "onxaulvcyshzgi.k", "jc99945544232212"},
		{del, "", 11, nil, "onxaulvcys.zgi.k", "jc99945544232212"},
		{del, "", 16, nil, "onxaulvcys.zgi..", "jc99945544232212"},
		{add, "v", 0, api.ErrTwice, "onxaulvcys.zgi..", "jc99945544232212"},
		{del, "", 5, nil, "onxa.lvcys.zgi..", "jc99945544232212"},
		{del, "", 2, nil, "o.xa.lvcys.zgi..", "jc99945544232212"},
		{add, "h", 2, nil, "ohxa.lvcys.zgi..", "jd99945544232212"},
		{add, "v", 0, api.ErrTwice, "ohxa.lvcys.zgi..", "jd99945544232212"},
		{add, "m", 5, nil, "ohxamlvcys.zgi..", "jd99a45544232212"},
		{del, "", 12, nil, "ohxamlvcys..gi..", "jd99a45544232212"},
		{add, "q", 11, nil, "ohxamlvcysq.gi..", "jd99a45544332212"},
		{del, "", 13, nil, "ohxamlvcysq..i..", "jd99a45544332212"},
		{del, "", 7, nil, "ohxaml.cysq..i..", "jd99a45544332212"},
		{add, "e", 7, nil, "ohxamlecysq..i..", "jd99a46544332212"},
		{add, "l", 0, api.ErrTwice, "ohxamlecysq..i..", "jd99a46544332212"},
		{del, "", -1, api.ErrNone, "ohxamlecysq..i..", "jd99a46544332212"},
		{del, "", 14, nil, "ohxamlecysq.....", "jd99a46544332212"},
		{add, "y", 0, api.ErrTwice, "ohxamlecysq.....", "jd99a46544332212"},
		{add, "w", 12, nil, "ohxamlecysqw....", "jd99a46544342212"},
		{add, "d", 13, nil, "ohxamlecysqwd...", "jd99a46544343212"},
		{add, "u", 14, nil, "ohxamlecysqwdu..", "jd99a46544343312"},
		{add, "5", 0, api.ErrRange, "ohxamlecysqwdu..", "jd99a46544343312"},
		{add, "a", 0, api.ErrTwice, "ohxamlecysqwdu..", "jd99a46544343312"},
		{del, "", 16, api.ErrNone, "ohxamlecysqwdu..", "jd99a46544343312"},
		{add, "p", 15, nil, "ohxamlecysqwdup.", "jd99a46544343322"},
		{add, "3", 0, api.ErrRange, "ohxamlecysqwdup.", "jd99a46544343322"},
	})
}

// TestStepsOfFew: a few come and go, mostly at the first numbers.
func TestStepsOfFew(t *testing.T) {
	mustGo(t, []step{
		{add, "e", 1, nil, "e...............", "1000000000000000"},
		{del, "", 1, nil, "................", "1000000000000000"},
		{add, "b", 1, nil, "b...............", "2000000000000000"},
		{del, "", 1, nil, "................", "2000000000000000"},
		{del, "", 3, api.ErrNone, "................", "2000000000000000"},
		{del, "", 17, api.ErrNone, "................", "2000000000000000"},
		{add, "e", 1, nil, "e...............", "3000000000000000"},
		{add, "e", 0, api.ErrTwice, "e...............", "3000000000000000"},
		{add, "e", 0, api.ErrTwice, "e...............", "3000000000000000"},
		{del, "", 5, api.ErrNone, "e...............", "3000000000000000"},
		{del, "", 1, nil, "................", "3000000000000000"},
		{add, "e", 1, nil, "e...............", "4000000000000000"},
		{add, "r", 2, nil, "er..............", "4100000000000000"},
		{del, "", 1, nil, ".r..............", "4100000000000000"},
		{add, "r", 0, api.ErrTwice, ".r..............", "4100000000000000"},
		{add, "r", 0, api.ErrTwice, ".r..............", "4100000000000000"},
		{del, "", 2, nil, "................", "4100000000000000"},
		{del, "", 17, api.ErrNone, "................", "4100000000000000"},
		{del, "", 17, api.ErrNone, "................", "4100000000000000"},
		{del, "", 4, api.ErrNone, "................", "4100000000000000"},
		{del, "", 5, api.ErrNone, "................", "4100000000000000"},
		{add, "a", 1, nil, "a...............", "5100000000000000"},
		{del, "", 1, nil, "................", "5100000000000000"},
		{add, "e", 1, nil, "e...............", "6100000000000000"},
		{add, "r", 2, nil, "er..............", "6200000000000000"},
		{add, "r", 0, api.ErrTwice, "er..............", "6200000000000000"},
		{add, "f", 3, nil, "erf.............", "6210000000000000"},
		{add, "f", 0, api.ErrTwice, "erf.............", "6210000000000000"},
		{add, "r", 0, api.ErrTwice, "erf.............", "6210000000000000"},
		{add, "f", 0, api.ErrTwice, "erf.............", "6210000000000000"},
		{add, "r", 0, api.ErrTwice, "erf.............", "6210000000000000"},
		{add, "b", 4, nil, "erfb............", "6211000000000000"},
		{add, "e", 0, api.ErrTwice, "erfb............", "6211000000000000"},
		{add, "b", 0, api.ErrTwice, "erfb............", "6211000000000000"},
		{add, "4", 0, api.ErrRange, "erfb............", "6211000000000000"},
		{add, "f", 0, api.ErrTwice, "erfb............", "6211000000000000"},
		{add, "e", 0, api.ErrTwice, "erfb............", "6211000000000000"},
		{add, "0", 0, api.ErrRange, "erfb............", "6211000000000000"},
		{add, "a", 5, nil, "erfba...........", "6211100000000000"},
		{add, "a", 0, api.ErrTwice, "erfba...........", "6211100000000000"},
		{del, "", 4, nil, "erf.a...........", "6211100000000000"},
		{add, "b", 4, nil, "erfba...........", "6212100000000000"},
		{add, "f", 0, api.ErrTwice, "erfba...........", "6212100000000000"},
		{add, "e", 0, api.ErrTwice, "erfba...........", "6212100000000000"},
		{add, "a", 0, api.ErrTwice, "erfba...........", "6212100000000000"},
		{add, "f", 0, api.ErrTwice, "erfba...........", "6212100000000000"},
		{del, "", 0, api.ErrNone, "erfba...........", "6212100000000000"},
		{del, "", 1, nil, ".rfba...........", "6212100000000000"},
		{add, "5", 0, api.ErrRange, ".rfba...........", "6212100000000000"},
		{del, "", 4, nil, ".rf.a...........", "6212100000000000"},
		{add, "f", 0, api.ErrTwice, ".rf.a...........", "6212100000000000"},
		{add, "a", 0, api.ErrTwice, ".rf.a...........", "6212100000000000"},
		{add, "b", 1, nil, "brf.a...........", "7212100000000000"},
		{add, "b", 0, api.ErrTwice, "brf.a...........", "7212100000000000"},
		{del, "", 2, nil, "b.f.a...........", "7212100000000000"},
		{del, "", 2, api.ErrNone, "b.f.a...........", "7212100000000000"},
		{del, "", 1, nil, "..f.a...........", "7212100000000000"},
		{add, "a", 0, api.ErrTwice, "..f.a...........", "7212100000000000"},
		{add, "4", 0, api.ErrRange, "..f.a...........", "7212100000000000"},
		{del, "", 5, nil, "..f.............", "7212100000000000"},
		{add, "f", 0, api.ErrTwice, "..f.............", "7212100000000000"},
		{add, "0", 0, api.ErrRange, "..f.............", "7212100000000000"},
		{del, "", 3, nil, "................", "7212100000000000"},
		{add, "f", 1, nil, "f...............", "8212100000000000"},
		{add, "e", 2, nil, "fe..............", "8312100000000000"},
		{add, "a", 3, nil, "fea.............", "8322100000000000"},
		{del, "", 1, nil, ".ea.............", "8322100000000000"},
		{add, "a", 0, api.ErrTwice, ".ea.............", "8322100000000000"},
		{del, "", 3, nil, ".e..............", "8322100000000000"},
		{add, "r", 1, nil, "re..............", "9322100000000000"},
		{add, "e", 0, api.ErrTwice, "re..............", "9322100000000000"},
		{del, "", 2, nil, "r...............", "9322100000000000"},
		{add, "a", 2, nil, "ra..............", "9422100000000000"},
		{del, "", 1, nil, ".a..............", "9422100000000000"},
		{del, "", 2, nil, "................", "9422100000000000"},
		{add, "f", 1, nil, "f...............", "a422100000000000"},
		{add, "e", 2, nil, "fe..............", "a522100000000000"},
		{add, "b", 3, nil, "feb.............", "a532100000000000"},
		{add, "r", 4, nil, "febr............", "a533100000000000"},
		{del, "", 3, nil, "fe.r............", "a533100000000000"},
		{del, "", 4, nil, "fe..............", "a533100000000000"},
		{add, "f", 0, api.ErrTwice, "fe..............", "a533100000000000"},
		{add, "f", 0, api.ErrTwice, "fe..............", "a533100000000000"},
		{del, "", 2, nil, "f...............", "a533100000000000"},
		{del, "", 1, nil, "................", "a533100000000000"},
		{del, "", 3, api.ErrNone, "................", "a533100000000000"},
		{add, "e", 1, nil, "e...............", "b533100000000000"},
		{del, "", 4, api.ErrNone, "e...............", "b533100000000000"},
		{del, "", 1, nil, "................", "b533100000000000"},
		{add, "b", 1, nil, "b...............", "c533100000000000"},
		{del, "", 1, nil, "................", "c533100000000000"},
		{del, "", 5, api.ErrNone, "................", "c533100000000000"},
		{add, "a", 1, nil, "a...............", "d533100000000000"},
		{add, "r", 2, nil, "ar..............", "d633100000000000"},
		{add, "a", 0, api.ErrTwice, "ar..............", "d633100000000000"},
		{del, "", 1, nil, ".r..............", "d633100000000000"},
		{del, "", 3, api.ErrNone, ".r..............", "d633100000000000"},
		{del, "", 2, nil, "................", "d633100000000000"},
		{add, "f", 1, nil, "f...............", "e633100000000000"},
		{add, "f", 0, api.ErrTwice, "f...............", "e633100000000000"},
		{del, "", 1, nil, "................", "e633100000000000"},
		{del, "", 3, api.ErrNone, "................", "e633100000000000"},
		{add, "f", 1, nil, "f...............", "f633100000000000"},
		{add, "2", 0, api.ErrRange, "f...............", "f633100000000000"},
		{add, "e", 2, nil, "fe..............", "f733100000000000"},
		{del, "", 1, nil, ".e..............", "f733100000000000"},
		{del, "", 2, nil, "................", "f733100000000000"},
		{del, "", 4, api.ErrNone, "................", "f733100000000000"},
		{del, "", 2, api.ErrNone, "................", "f733100000000000"},
		{add, "0", 0, api.ErrRange, "................", "f733100000000000"},
		{add, "b", 1, nil, "b...............", "g733100000000000"},
		{add, "e", 2, nil, "be..............", "g833100000000000"},
		{del, "", 1, nil, ".e..............", "g833100000000000"},
		{add, "a", 1, nil, "ae..............", "h833100000000000"},
		{del, "", 2, nil, "a...............", "h833100000000000"},
		{add, "1", 0, api.ErrRange, "a...............", "h833100000000000"},
		{add, "e", 2, nil, "ae..............", "h933100000000000"},
		{del, "", 1, nil, ".e..............", "h933100000000000"},
		{add, "2", 0, api.ErrRange, ".e..............", "h933100000000000"},
		{add, "b", 1, nil, "be..............", "i933100000000000"},
		{del, "", 1, nil, ".e..............", "i933100000000000"},
		{add, "r", 1, nil, "re..............", "j933100000000000"},
		{add, "b", 3, nil, "reb.............", "j943100000000000"},
		{del, "", 3, nil, "re..............", "j943100000000000"},
		{add, "e", 0, api.ErrTwice, "re..............", "j943100000000000"},
		{add, "r", 0, api.ErrTwice, "re..............", "j943100000000000"},
		{del, "", 1, nil, ".e..............", "j943100000000000"},
		{add, "r", 1, nil, "re..............", "k943100000000000"},
		{del, "", 17, api.ErrNone, "re..............", "k943100000000000"},
		{add, "a", 3, nil, "rea.............", "k953100000000000"},
	})
}

// rival keeps what was taken, one behind the other, and looks through all of it anew for each answer.
type rival []event

// event is that one got a number, or (no name) that a number's station went.
type event struct {
	aid  int
	name byte
}

// last is who has a number, 0 if nobody has, and how many had it so far.
func (r rival) last(aid int) (name byte, n int) {
	for _, e := range r {
		if e.aid != aid {
			continue
		}
		if name = e.name; name != 0 {
			n++
		}
	}
	return name, n
}

func (r rival) view() view {
	v := view{who: nothing}
	for aid := 1; aid <= 16; aid++ {
		name, n := r.last(aid)
		v.epochs[aid-1] = n
		if name != 0 {
			v.who = v.who[:aid-1] + string(rune(name)) + v.who[aid:]
		}
	}
	return v
}

func (r *rival) add(name byte) (int, error) {
	who := r.view().who
	least := strings.IndexByte(who, '.') + 1
	switch {
	case strings.IndexByte(strangers, name) >= 0:
		return 0, api.ErrRange
	case strings.IndexByte(who, name) >= 0:
		return 0, api.ErrTwice
	case least == 0:
		return 0, api.ErrFull
	}
	*r = append(*r, event{least, name})
	return least, nil
}

func (r *rival) del(aid int) error {
	if name, _ := r.last(aid); name == 0 {
		return api.ErrNone
	}
	*r = append(*r, event{aid: aid})
	return nil
}

// mustAddAsRival makes both calls, and asks all behind them.
func mustAddAsRival(t *testing.T, s *Table, r *rival, name byte) error {
	t.Helper()
	before := r.view()
	n, err := s.Add(of(name))
	m, why := r.add(name)
	if n != m || err != why {
		t.Fatalf("Add of %c: %d, %v, not %d, %v, of %v", name, n, err, m, why, before)
	}
	mustBe(t, s, r.view())
	return err
}

func mustDelAsRival(t *testing.T, s *Table, r *rival, aid int) error {
	t.Helper()
	before := r.view()
	err, why := s.Del(aid), r.del(aid)
	if err != why {
		t.Fatalf("Del(%d): %v, not %v, of %v", aid, err, why, before)
	}
	mustBe(t, s, r.view())
	return err
}

// TestAllCourses: each course of six calls about three numbers and stations; held against the rival.
func TestAllCourses(t *testing.T) {
	courses := 0
	var goOn func(s *Table, r rival, calls int)
	goOn = func(s *Table, r rival, calls int) {
		if calls == 0 {
			courses++
			mustBe(t, s, r.view())
			return
		}
		for _, name := range []byte("abe") {
			c, q := s.Clone(), slices.Clone(r)
			n, err := c.Add(of(name))
			if m, why := q.add(name); n != m || err != why {
				t.Fatalf("Add of %c: %d, %v, of %v", name, n, err, r.view())
			}
			goOn(c, q, calls-1)
		}
		for aid := 1; aid <= 3; aid++ {
			c, q := s.Clone(), slices.Clone(r)
			if err := c.Del(aid); err != q.del(aid) {
				t.Fatalf("Del(%d): %v, of %v", aid, err, r.view())
			}
			goOn(c, q, calls-1)
		}
	}
	goOn(new(Table), nil, 6)
	if courses != 6*6*6*6*6*6 {
		t.Error(courses)
	}
}

// dice is numbers that look like thrown ones, the same each time.
type dice uint64

func (d *dice) throw() uint64 {
	*d += 0x9e3779b97f4a7c15
	x := uint64(*d)
	x = (x ^ x>>30) * 0xbf58476d1ce4e5b9
	x = (x ^ x>>27) * 0x94d049bb133111eb
	return x ^ x>>31
}

func (d *dice) below(n int) int { return int(d.throw() % uint64(n)) }

// aid is one of the numbers, or what is none.
func (d *dice) aid() int {
	if d.below(12) == 0 {
		return noAids()[d.below(len(noAids()))]
	}
	return 1 + d.below(16)
}

// name is one of those that this course is about, or of a stranger.
func (d *dice) name(about string) byte {
	if d.below(12) == 0 {
		return strangers[d.below(len(strangers))]
	}
	return about[d.below(len(about))]
}

// TestModel: long courses, of one and of copies of it, each step held against the rival.
func TestModel(t *testing.T) {
	answers := map[error]int{}
	sizes := [17]int{}
	for seed := range 400 {
		d := dice(seed)
		about := []string{names, names[:17], names[5:22], "abcde"}[d.below(4)]
		s, r := new(Table), rival{}
		s2, r2 := s.Clone(), rival{}
		comes := 6
		for range 300 {
			switch d.below(32) {
			case 0:
				s2, r2 = s.Clone(), slices.Clone(r)
				mustBe(t, s2, r2.view())
			case 1:
				s, r, s2, r2 = s2, r2, s, r
			case 2:
				comes = 4 + d.below(6)
			default:
				if d.below(10) < comes {
					answers[mustAddAsRival(t, s, &r, d.name(about))]++
				} else {
					answers[mustDelAsRival(t, s, &r, d.aid())]++
				}
				sizes[len(s.All())]++
			}
		}
		mustBe(t, s, r.view())
		mustBe(t, s2, r2.view())
	}
	// The courses have to have come to what they are for.
	if answers[nil] < 30000 || answers[api.ErrRange] < 3000 || answers[api.ErrTwice] < 10000 || answers[api.ErrFull] < 500 || answers[api.ErrNone] < 10000 || len(answers) != 5 || slices.Min(sizes[:]) < 500 {
		t.Error(answers, sizes)
	}
}

// FuzzSta: a course of any bytes, held against the rival.
func FuzzSta(f *testing.F) {
	f.Add([]byte{})
	f.Add([]byte{0, 1, 2, 3, 65, 1, 67, 0, 64, 64, 128, 4, 5, 192, 6})
	f.Add([]byte{0, 1, 2, 3, 4, 5, 6, 7, 8, 9, 10, 11, 12, 13, 14, 15, 16, 17, 26, 80, 81, 16, 15, 64, 127})
	f.Fuzz(func(t *testing.T, b []byte) {
		s, r := new(Table), rival{}
		s2, r2 := s.Clone(), rival{}
		for _, x := range b[:min(len(b), 1000)] {
			switch n := int(x & 63); x >> 6 {
			case 0:
				mustAddAsRival(t, s, &r, (names + strangers)[n%32])
			case 1:
				mustDelAsRival(t, s, &r, n-20)
			case 2:
				s2, r2 = s.Clone(), slices.Clone(r)
			default:
				s, r, s2, r2 = s2, r2, s, r
			}
		}
		mustBe(t, s, r.view())
		mustBe(t, s2, r2.view())
	})
}
