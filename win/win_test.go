package win

import (
	"math"
	"slices"
	"testing"

	"muezzin/api"
)

// The ends that the chapter names.
const (
	round   = 4096
	last    = 4095
	biggest = 64
)

// sizes are sizes that a window may have.
var sizes = []int{1, 2, 3, 4, 7, 31, 32, 33, 63, 64}

// wrongSizes are sizes that it may not have.
var wrongSizes = []int{0, 65, -1, 66, -64, 127, 128, 129, 255, 256, 257, 320, 4096, 4097, 1 << 16, 1<<16 + 1, math.MinInt32, math.MaxInt32, math.MinInt, math.MinInt + 1, math.MaxInt}

// starts are where a window may begin.
var starts = []int{0, 1, 5, 63, 64, 65, 2047, 2048, 2049, 4031, 4032, 4033, 4094, 4095}

// wrongStarts are where it may not.
var wrongStarts = []int{-1, 4096, -2, 4097, -4095, -4096, -4097, 8191, 8192, 1 << 16, 1<<16 + 5, math.MinInt32, math.MaxInt32, math.MinInt, math.MinInt + 5, math.MaxInt}

// mustNew is a window that is new.
func mustNew(t *testing.T, start, size int) *Win {
	t.Helper()
	w, err := New(start, size)
	if err != nil || w == nil {
		t.Fatalf("New(%d, %d): %v", start, size, err)
	}
	return w
}

// mustSay fails unless a window tells this of itself, twice.
func mustSay(t *testing.T, w *Win, start, ahead, size int, out ...int) {
	t.Helper()
	for range 2 {
		l := w.Out()
		if !slices.Equal(l, out) || w.Start() != start || w.Ahead() != ahead || w.Size() != size {
			t.Errorf("from %d, next %d, of %d, %v, want %d, %d, %d, %v", w.Start(), w.Ahead(), w.Size(), l, start, ahead, size, out)
		}
		mustBeWithin(t, w, l)
		clear(l[:cap(l)])
	}
}

// mustBeWithin fails unless those that are out are fewer than Size from Start on (P15.2).
func mustBeWithin(t *testing.T, w *Win, out []int) {
	t.Helper()
	for _, s := range out {
		if s < 0 || s > last || (s-w.Start()+round)%round >= w.Size() {
			t.Errorf("%d is out, from %d on, of %d", s, w.Start(), w.Size())
		}
	}
}

// mustNext fails unless these are given out, one behind the other.
func mustNext(t *testing.T, w *Win, wants ...int) {
	t.Helper()
	for _, want := range wants {
		if s, is := w.Next(); s != want || !is {
			t.Errorf("Next = %d, %v, want %d", s, is, want)
		}
	}
}

// mustBeFull fails unless nothing is given out, however often it is asked for, and the window stays as it was.
func mustBeFull(t *testing.T, w *Win) {
	t.Helper()
	start, ahead, size, out := w.Start(), w.Ahead(), w.Size(), w.Out()
	for range 3 {
		if s, is := w.Next(); s != 0 || is {
			t.Errorf("Next of a full one = %d, %v", s, is)
		}
		mustSay(t, w, start, ahead, size, out...)
	}
}

// mustDo fails unless these are out, and are so no more.
func mustDo(t *testing.T, w *Win, l ...int) {
	t.Helper()
	for _, s := range l {
		if err := w.Done(s); err != nil {
			t.Errorf("Done(%d): %v", s, err)
		}
	}
}

// mustNotDo fails unless none of these is out, and the window stays as it was.
func mustNotDo(t *testing.T, w *Win, l ...int) {
	t.Helper()
	start, ahead, size, out := w.Start(), w.Ahead(), w.Size(), w.Out()
	for _, s := range l {
		if err := w.Done(s); err != api.ErrNone {
			t.Errorf("Done(%d): %v", s, err)
		}
		mustSay(t, w, start, ahead, size, out...)
	}
}

// mustResize fails unless a size is taken, or is refused and the window stays as it was.
func mustResize(t *testing.T, w *Win, size int, want error) {
	t.Helper()
	start, ahead, was, out := w.Start(), w.Ahead(), w.Size(), w.Out()
	if want == nil {
		was = size
	}
	if err := w.Resize(size); err != want {
		t.Errorf("Resize(%d): %v, want %v", size, err, want)
	}
	mustSay(t, w, start, ahead, was, out...)
}

// from is n numbers from s on, and round.
func from(s, n int) []int {
	var l []int
	for i := range n {
		l = append(l, (s+i)%round)
	}
	return l
}

// aliens are the numbers that s would be, if it were taken modulo.
func aliens(s int) []int {
	var l []int
	for _, n := range []int{1, 2, 3, 16, 1 << 10, 1 << 18} {
		l = append(l, s+n*round, s-n*round)
	}
	return append(l, math.MinInt+s, math.MaxInt-last+s)
}

// P15.1: New.

func TestNew(t *testing.T) {
	for _, start := range starts {
		for _, size := range sizes {
			mustSay(t, mustNew(t, start, size), start, start, size)
		}
	}
	refuse := func(start, size int) {
		t.Helper()
		if w, err := New(start, size); w != nil || err != api.ErrRange {
			t.Errorf("New(%d, %d) = %v, %v", start, size, w, err)
		}
	}
	for _, start := range wrongStarts {
		for _, size := range slices.Concat(sizes, wrongSizes) {
			refuse(start, size)
		}
	}
	for _, size := range wrongSizes {
		for _, start := range starts {
			refuse(start, size)
		}
	}
}

// TestExample is the chapter's.
func TestExample(t *testing.T) {
	w := mustNew(t, 5, 1)
	mustNext(t, w, 5)
	mustBeFull(t, w)
	mustSay(t, w, 5, 6, 1, 5)
}

// TestEverySize: a window of each size that may be gives out so many.
func TestEverySize(t *testing.T) {
	for size := 1; size <= biggest; size++ {
		for _, start := range starts {
			w := mustNew(t, start, size)
			for i, s := range from(start, size) {
				mustNext(t, w, s)
				mustSay(t, w, start, (start+i+1)%round, size, from(start, i+1)...)
			}
			mustBeFull(t, w)
		}
	}
}

// TestEveryStart: a window may begin at each number.
func TestEveryStart(t *testing.T) {
	for start := range round {
		w := mustNew(t, start, biggest)
		mustSay(t, w, start, start, biggest)
		l := from(start, biggest)
		mustNext(t, w, l...)
		mustSay(t, w, start, (start+biggest)%round, biggest, l...)
		mustDo(t, w, l[3], l[63], l[0], l[1])
		left := slices.Concat(l[2:3], l[4:63])
		mustSay(t, w, l[2], (start+biggest)%round, biggest, left...)
	}
}

// P15.1: Next and Done.

// TestRound: given out and done again and again, in order, thrice round.
func TestRound(t *testing.T) {
	for _, size := range sizes {
		for _, out := range []int{1, (size + 1) / 2, size} {
			w := mustNew(t, 4000, size)
			mustNext(t, w, from(4000, out-1)...)
			for i := range 3 * round {
				first, next := (4000+i)%round, (4000+i+out-1)%round
				mustNext(t, w, next)
				if s := w.Start(); s != first {
					t.Fatalf("Start = %d, want %d", s, first)
				}
				if i%97 == 0 {
					mustSay(t, w, first, (next+1)%round, size, from(first, out)...)
				}
				if out == size && i%97 == 1 {
					mustBeFull(t, w)
				}
				mustDo(t, w, first)
			}
		}
	}
}

// TestOutOfOrder: a whole window is given out, and done backwards, again and again.
func TestOutOfOrder(t *testing.T) {
	for _, size := range sizes {
		w := mustNew(t, last, size)
		first := last
		for range 2*round/size + 2 {
			l := from(first, size)
			mustNext(t, w, l...)
			for i := size - 1; i > 0; i-- {
				mustDo(t, w, l[i])
				mustSay(t, w, first, (first+size)%round, size, l[:i]...)
				mustBeFull(t, w)
			}
			mustDo(t, w, first)
			first = (first + size) % round
			mustSay(t, w, first, first, size)
		}
	}
}

// TestDoneOfFull: of a window that is just full each one, alone, is done.
func TestDoneOfFull(t *testing.T) {
	for _, size := range sizes {
		for _, start := range starts {
			full := mustNew(t, start, size)
			l := from(start, size)
			mustNext(t, full, l...)
			end := (start + size) % round
			for i, s := range l {
				w := full.Clone()
				mustDo(t, w, s)
				left := slices.Delete(slices.Clone(l), i, i+1)
				if i > 0 {
					mustSay(t, w, start, end, size, left...)
					mustBeFull(t, w)
					continue
				}
				mustSay(t, w, (start+1)%round, end, size, left...)
				mustNext(t, w, end)
				mustSay(t, w, (start+1)%round, (end+1)%round, size, from((start+1)%round, size)...)
				mustBeFull(t, w)
			}
		}
	}
}

// TestDoneMoves: Start goes on to the first that is out still, over all that were done before.
func TestDoneMoves(t *testing.T) {
	w := mustNew(t, 4090, 10)
	mustNext(t, w, from(4090, 10)...)
	mustDo(t, w, 4091, 4092, 4094, 0)
	mustSay(t, w, 4090, 4, 10, 4090, 4093, 4095, 1, 2, 3)
	mustBeFull(t, w)
	mustDo(t, w, 4090)
	mustSay(t, w, 4093, 4, 10, 4093, 4095, 1, 2, 3)
	mustNext(t, w, 4, 5, 6)
	mustBeFull(t, w)
	mustDo(t, w, 4095)
	mustSay(t, w, 4093, 7, 10, 4093, 1, 2, 3, 4, 5, 6)
	mustDo(t, w, 4093)
	mustSay(t, w, 1, 7, 10, 1, 2, 3, 4, 5, 6)
	mustDo(t, w, 6, 2, 5, 3, 4)
	mustSay(t, w, 1, 7, 10, 1)
	mustNext(t, w, 7, 8, 9, 10)
	mustBeFull(t, w)
	mustDo(t, w, 10, 9, 8, 7)
	mustBeFull(t, w)
	mustDo(t, w, 1)
	mustSay(t, w, 11, 11, 10)
	mustNext(t, w, from(11, 10)...)
	mustBeFull(t, w)
}

// TestDoneOfNone: what is not out isn't done: never given out, done already, no number at all.
func TestDoneOfNone(t *testing.T) {
	for _, start := range starts {
		w := mustNew(t, start, 64)
		mustNotDo(t, w, from(start, round)...)
		mustNotDo(t, w, aliens(start)...)
		mustNotDo(t, w, wrongStarts...)
		l := from(start, 40)
		mustNext(t, w, l...)
		mustNotDo(t, w, from(start+40, round-40)...)
		mustDo(t, w, l[1], l[2], l[20], l[39])
		mustNotDo(t, w, l[1], l[2], l[20], l[39])
		for _, s := range l {
			mustNotDo(t, w, aliens(s)...)
		}
		mustNotDo(t, w, wrongStarts...)
		mustDo(t, w, l[0])
		mustNotDo(t, w, l[0], l[1], l[2], l[20], l[39])
		mustNotDo(t, w, from(start+40, round-40)...)
		mustDo(t, w, l[3:20]...)
		mustDo(t, w, l[21:39]...)
		mustSay(t, w, (start+40)%round, (start+40)%round, 64)
		mustNotDo(t, w, from(0, round)...)
		for _, s := range l {
			mustNotDo(t, w, aliens(s)...)
		}
		mustNext(t, w, (start+40)%round)
	}
}

// TestDoneIsNoMask: a number that is as far away as one that is out, but for a multiple of 64, isn't out.
func TestDoneIsNoMask(t *testing.T) {
	for _, size := range []int{1, 32, 64} {
		w := mustNew(t, 4080, size)
		mustNext(t, w, from(4080, size)...)
		for i := 1; i < 64; i++ {
			for _, s := range from(4080, size) {
				mustNotDo(t, w, (s+64*i)%round)
			}
		}
		mustDo(t, w, from(4080, size)...)
	}
}

// TestStart: where nothing is out, where one is, where the window goes over from 4095 to 0.
func TestStart(t *testing.T) {
	w := mustNew(t, 4095, 3)
	mustSay(t, w, 4095, 4095, 3)
	mustNext(t, w, 4095)
	mustSay(t, w, 4095, 0, 3, 4095)
	mustNext(t, w, 0)
	mustSay(t, w, 4095, 1, 3, 4095, 0)
	mustDo(t, w, 4095)
	mustSay(t, w, 0, 1, 3, 0)
	mustDo(t, w, 0)
	mustSay(t, w, 1, 1, 3)
	w = mustNew(t, 4094, 2)
	mustNext(t, w, 4094, 4095)
	mustSay(t, w, 4094, 0, 2, 4094, 4095)
	mustDo(t, w, 4095)
	mustSay(t, w, 4094, 0, 2, 4094)
	mustDo(t, w, 4094)
	mustSay(t, w, 0, 0, 2)
	mustNext(t, w, 0, 1)
	mustSay(t, w, 0, 2, 2, 0, 1)
}

// P15.1: Out.

// TestOut: by how far they are from Start on, not by number.
func TestOut(t *testing.T) {
	w := mustNew(t, 4064, 64)
	mustNext(t, w, from(4064, 64)...)
	mustSay(t, w, 4064, 32, 64, from(4064, 64)...)
	var odd []int
	for _, s := range from(4064, 64) {
		if s%2 == 0 {
			mustDo(t, w, s)
		} else {
			odd = append(odd, s)
		}
	}
	mustSay(t, w, 4065, 32, 64, odd...)
	mustNext(t, w, 32)
	mustSay(t, w, 4065, 33, 64, append(odd, 32)...)
	mustDo(t, w, odd[:15]...)
	mustSay(t, w, 4095, 33, 64, append(odd[15:], 32)...)
}

// TestOutIsNew: what the caller does with a list no other list shows, and not the window.
func TestOutIsNew(t *testing.T) {
	for n := range 20 {
		w := mustNew(t, 4090, 64)
		mustNext(t, w, from(4090, n)...)
		one, two := w.Out(), w.Out()
		three := w.Clone().Out()
		for i := range one[:cap(one)] {
			one[:cap(one)][i] = 77
		}
		one = append(one, 78)
		for _, l := range [][]int{two, three} {
			if !slices.Equal(l, from(4090, n)) {
				t.Errorf("%v shows what was written into another one", l)
			}
		}
		mustSay(t, w, 4090, (4090+n)%round, 64, from(4090, n)...)
		mustNext(t, w, (4090+n)%round)
		if !slices.Equal(two, from(4090, n)) {
			t.Errorf("%v shows what was given out later", two)
		}
		mustDo(t, w, from(4090, n+1)...)
		if !slices.Equal(two, from(4090, n)) {
			t.Errorf("%v shows what was done later", two)
		}
	}
}

// P15.1: Resize.

func TestResize(t *testing.T) {
	for _, size := range sizes {
		for _, other := range sizes {
			w := mustNew(t, 4090, size)
			mustResize(t, w, other, nil)
			l := from(4090, other)
			mustNext(t, w, l...)
			mustBeFull(t, w)
			for i := other - 1; i >= 0; i-- {
				mustResize(t, w, size, api.ErrState)
				mustResize(t, w, other, api.ErrState)
				mustBeFull(t, w)
				mustDo(t, w, l[i])
			}
			mustResize(t, w, size, nil)
			mustSay(t, w, (4090+other)%round, (4090+other)%round, size)
			mustNext(t, w, from(4090+other, size)...)
			mustBeFull(t, w)
		}
	}
}

// TestResizeOfOne: one that is out, whichever it is, forbids it.
func TestResizeOfOne(t *testing.T) {
	for i := range 64 {
		w := mustNew(t, 4060, 64)
		l := from(4060, 64)
		mustNext(t, w, l...)
		for j, s := range l {
			if j != i {
				mustDo(t, w, s)
			}
		}
		for _, size := range sizes {
			mustResize(t, w, size, api.ErrState)
		}
		mustDo(t, w, l[i])
		mustResize(t, w, 2, nil)
		mustNext(t, w, 28, 29)
		mustBeFull(t, w)
	}
}

// TestWrongResize: a size that may not be is told first, whether something is out or not.
func TestWrongResize(t *testing.T) {
	for _, size := range wrongSizes {
		w := mustNew(t, 4095, 2)
		mustResize(t, w, size, api.ErrRange)
		mustNext(t, w, 4095)
		mustResize(t, w, size, api.ErrRange)
		mustNext(t, w, 0)
		mustResize(t, w, size, api.ErrRange)
		mustBeFull(t, w)
		mustDo(t, w, 0, 4095)
		mustResize(t, w, size, api.ErrRange)
		mustNext(t, w, 1, 2)
		mustBeFull(t, w)
	}
}

// P15.1: Clone.

// TestClone: a copy goes its own way, and so does the window that was copied.
func TestClone(t *testing.T) {
	w := mustNew(t, 4093, 5)
	mustNext(t, w, 4093, 4094, 4095)
	mustDo(t, w, 4094)
	c := w.Clone()
	d := c.Clone()
	mustDo(t, w, 4093)
	mustSay(t, c, 4093, 0, 5, 4093, 4095)
	mustNext(t, c, 0, 1)
	mustBeFull(t, c)
	mustSay(t, w, 4095, 0, 5, 4095)
	mustNext(t, w, 0, 1, 2, 3)
	mustBeFull(t, w)
	mustDo(t, d, 4095, 4093)
	mustResize(t, d, 1, nil)
	mustNext(t, d, 0)
	mustBeFull(t, d)
	mustSay(t, w, 4095, 4, 5, 4095, 0, 1, 2, 3)
	mustSay(t, c, 4093, 2, 5, 4093, 4095, 0, 1)
	mustSay(t, d, 0, 1, 1, 0)
	mustNotDo(t, d, 4093, 4095, 1)
	mustNotDo(t, w, 4093)
	mustDo(t, c, 4093)
	mustSay(t, c, 4095, 2, 5, 4095, 0, 1)
	mustSay(t, mustNew(t, 7, 9).Clone(), 7, 7, 9)
}

// TestNoneTouchesAnother: one window tells nothing of another one.
func TestNoneTouchesAnother(t *testing.T) {
	v, w := mustNew(t, 0, 3), mustNew(t, 0, 4)
	mustNext(t, v, 0, 1, 2)
	mustSay(t, w, 0, 0, 4)
	mustNotDo(t, w, 0, 1, 2)
	mustNext(t, w, 0, 1)
	mustDo(t, v, 0, 1, 2)
	mustSay(t, w, 0, 2, 4, 0, 1)
	mustResize(t, v, 1, nil)
	mustSay(t, w, 0, 2, 4, 0, 1)
}

// P15.1 and P15.2: against what the chapter words.

// rival is a window as the chapter words it: its numbers don't go round till they are told, and those that are out
// stand in a list.
type rival struct {
	next, size int
	out        []int
}

func (r *rival) clone() *rival { return &rival{r.next, r.size, slices.Clone(r.out)} }

func (r *rival) start() int {
	if len(r.out) == 0 {
		return r.next
	}
	return slices.Min(r.out)
}

// give is Next.
func (r *rival) give() (int, bool) {
	if r.next-r.start() == r.size {
		return 0, false
	}
	r.out = append(r.out, r.next)
	r.next++
	return (r.next - 1) % round, true
}

func (r *rival) done(s int) error {
	i := slices.IndexFunc(r.out, func(n int) bool { return n%round == s })
	if i < 0 {
		return api.ErrNone
	}
	r.out = slices.Delete(r.out, i, i+1)
	return nil
}

func (r *rival) resize(size int) error {
	switch {
	case size <= 0 || size >= 65:
		return api.ErrRange
	case len(r.out) > 0:
		return api.ErrState
	}
	r.size = size
	return nil
}

// pair is a window and its rival.
type pair struct {
	w *Win
	r *rival
}

func newPair(t *testing.T, start, size int) pair {
	t.Helper()
	return pair{mustNew(t, start, size), &rival{next: start, size: size}}
}

func (p pair) clone() pair { return pair{p.w.Clone(), p.r.clone()} }

// look holds all that a window tells of itself against its rival.
func (p pair) look(t *testing.T) {
	t.Helper()
	var want []int
	for _, n := range slices.Sorted(slices.Values(p.r.out)) {
		want = append(want, n%round)
	}
	out := p.w.Out()
	if !slices.Equal(out, want) || p.w.Start() != p.r.start()%round || p.w.Ahead() != p.r.next%round || p.w.Size() != p.r.size {
		t.Fatalf("from %d, next %d, of %d, %v, want %+v", p.w.Start(), p.w.Ahead(), p.w.Size(), out, *p.r)
	}
	mustBeWithin(t, p.w, out)
	clear(out[:cap(out)])
}

func (p pair) next(t *testing.T) bool {
	t.Helper()
	s, is := p.w.Next()
	want, wantIs := p.r.give()
	if s != want || is != wantIs {
		t.Fatalf("Next = %d, %v, want %d, %v", s, is, want, wantIs)
	}
	p.look(t)
	return is
}

func (p pair) done(t *testing.T, s int) bool {
	t.Helper()
	err, want := p.w.Done(s), p.r.done(s)
	if err != want {
		t.Fatalf("Done(%d) = %v, want %v", s, err, want)
	}
	p.look(t)
	return err == nil
}

func (p pair) resize(t *testing.T, size int) bool {
	t.Helper()
	err, want := p.w.Resize(size), p.r.resize(size)
	if err != want {
		t.Fatalf("Resize(%d) = %v, want %v", size, err, want)
	}
	p.look(t)
	return err == nil
}

// all goes on with p by each call that may be, and by each call behind that, and so on.
func (p pair) all(t *testing.T, calls int) {
	t.Helper()
	if calls == 0 {
		return
	}
	start, size := p.r.start(), p.r.size
	c := p.clone()
	if c.next(t) {
		c.all(t, calls-1)
	}
	for s := start + round - 2; s <= start+round+size+1; s++ {
		c = p.clone()
		c.done(t, s)
		c = p.clone()
		if c.done(t, s%round) {
			c.all(t, calls-1)
		}
	}
	for other := 0; other <= 4; other++ {
		c = p.clone()
		if c.resize(t, other) {
			c.all(t, calls-1)
		}
	}
	p.look(t)
}

// TestEveryCourse: all that may be done in few calls with windows that are small.
func TestEveryCourse(t *testing.T) {
	for size := 1; size <= 4; size++ {
		for _, start := range []int{0, 77, 4093, 4094, 4095} {
			newPair(t, start, size).all(t, 6)
		}
	}
}

// dice answer numbers by a rule that comes by everywhere.
type dice uint64

func (d *dice) below(n int) int {
	*d += 0x9e3779b97f4a7c15
	x := uint64(*d)
	x = (x ^ x>>30) * 0xbf58476d1ce4e5b9
	x = (x ^ x>>27) * 0x94d049bb133111eb
	return int((x ^ x>>31) % uint64(n))
}

// number is one to be done: mostly one that is out, often the first, now and then one that is none.
func (d *dice) number(p pair) int {
	out := p.r.out
	switch n := d.below(20); {
	case n < 3:
		return p.r.start() % round
	case n < 17 && len(out) > 0:
		return out[d.below(len(out))] % round
	case n < 18:
		return p.r.start() + d.below(2*round) - round
	}
	return (p.r.start() + d.below(140) - 70 + round) % round
}

// met is how often random courses met what they are to meet.
type met struct{ full, sized, gone, none int }

// step goes on with p at random, so that from time to time it is full, and from time to time empty.
func (d *dice) step(t *testing.T, p pair, full bool, m *met) {
	t.Helper()
	switch n := d.below(20); {
	case n == 0:
		if p.resize(t, d.below(70)-2) {
			m.sized++
		}
	case n < 15 == full:
		if !p.next(t) {
			m.full++
		}
	case p.done(t, d.number(p)):
		m.gone++
	default:
		m.none++
	}
}

// TestModel has random courses; copies go on by themselves.
func TestModel(t *testing.T) {
	var m met
	for i := range 40 {
		d := dice(i)
		p := newPair(t, d.below(round), sizes[i%len(sizes)])
		full := true
		for range 4000 {
			if d.below(100) == 0 {
				full = !full
			}
			d.step(t, p, full, &m)
			if d.below(100) > 0 {
				continue
			}
			// The one of the two that is left alone is not what it was, if the other one touches it.
			alone, other := p, p.clone()
			if d.below(2) == 0 {
				alone, other = other, alone
			}
			for range 20 {
				d.step(t, other, !full, &m)
			}
			alone.look(t)
			p = alone
		}
	}
	if m.full < 10000 || m.sized < 1000 || m.gone < 20000 || m.none < 10000 {
		t.Errorf("%+v", m)
	}
}

// FuzzWin holds a window against its rival, at what two bytes each say.
func FuzzWin(f *testing.F) {
	f.Add(5, 1, []byte{0, 0, 0, 0, 1, 0, 0, 0})
	f.Add(4094, 4, []byte{0, 0, 0, 0, 0, 0, 0, 0, 0, 0, 1, 2, 1, 2, 1, 0, 0, 0, 1, 4, 1, 1, 1, 3, 2, 9, 0, 0})
	f.Add(0, 64, slices.Repeat([]byte{0, 0, 0, 0, 1, 0}, 100))
	f.Add(-1, 5, []byte{0, 0})
	f.Add(0, 65, []byte{0, 0})
	f.Fuzz(func(t *testing.T, start, size int, calls []byte) {
		w, err := New(start, size)
		if may := start >= 0 && start <= last && size >= 1 && size <= biggest; may != (err == nil) || may != (w != nil) {
			t.Fatalf("New(%d, %d) = %v, %v", start, size, w, err)
		} else if !may {
			return
		}
		p := newPair(t, start, size)
		var left []pair
		for i := 0; i+1 < len(calls); i += 2 {
			n := int(calls[i+1])
			switch calls[i] % 8 {
			case 1, 2, 3:
				p.done(t, (p.r.start()+n)%round)
			case 4:
				p.resize(t, n-2)
			case 5:
				left = append(left, p)
				p = p.clone()
			case 6:
				p.done(t, (n-128)*round/4+p.r.start()%round)
			default:
				p.next(t)
			}
		}
		for _, p := range left {
			p.look(t)
		}
	})
}
