package ba

import (
	"bytes"
	"math"
	"slices"
	"strconv"
	"strings"
	"testing"

	"muezzin/api"
)

// The ends that the chapter names.
const (
	round    = 4096
	last     = 4095
	biggest  = 64
	tries    = 15
	longest  = 1 << 40
	forever  = 1 << 50
	tooGreat = 1024
)

// What a session is made of where a test names nothing else.
const (
	retry = 2
	life  = 1000
)

// spoil stands where nobody is to write, or is to have read.
const spoil = 0xee

// wrongSeqs are numbers that no frame may have.
var wrongSeqs = []int{-1, 4096, -2, 4097, -4095, -4096, -4097, 8191, 8192, 1 << 16, 1<<16 + 5, math.MinInt32, math.MaxInt32, math.MinInt, math.MinInt + 5, math.MaxInt}

// packet is a packet of that number.
func packet(id int) api.Packet {
	return api.Packet{ID: id, Flow: uint32(id * 7), TID: id % 8, At: int64(id) + 5, Body: body(id)}
}

// body is the bytes of a packet of that number: some have none.
func body(id int) []byte {
	b := make([]byte, id%5)
	for i := range b {
		b[i] = byte(id%100 + i)
	}
	return b
}

// write writes into all memory of a list of frames, and of their bodies.
func write(l []api.Mpdu) {
	for _, m := range l {
		b := m.Packet.Body[:cap(m.Packet.Body)]
		for i := range b {
			b[i] = spoil
		}
	}
	l = l[:cap(l)]
	for i := range l {
		l[i] = api.Mpdu{Seq: spoil, Sent: spoil}
	}
}

// tell is the frames of a list, each by its number, its packet, how often it was sent, and till when it is worth it. The
// packets are asked, and the list is written over.
func tell(t *testing.T, l []api.Mpdu) string {
	t.Helper()
	var s []string
	for _, m := range l {
		p, want := m.Packet, packet(m.Packet.ID)
		if p.Flow != want.Flow || p.TID != want.TID || p.At != want.At || !bytes.Equal(p.Body, want.Body) {
			t.Errorf("%d is handed out as %+v", p.ID, p)
		}
		if bytes.IndexByte(p.Body[len(p.Body):cap(p.Body)], spoil) >= 0 {
			t.Errorf("%d is handed out with what lay behind the Body that came in", p.ID)
		}
		s = append(s, strconv.Itoa(m.Seq)+":"+strconv.Itoa(p.ID)+":"+strconv.Itoa(m.Sent)+":"+strconv.FormatInt(m.Until, 10))
	}
	write(l)
	return strings.Join(s, " ")
}

// short is as tell, without till when they are worth it.
func short(t *testing.T, l []api.Mpdu) string {
	t.Helper()
	long := tell(t, l)
	if long == "" {
		return ""
	}
	var s []string
	for _, x := range strings.Split(long, " ") {
		s = append(s, x[:strings.LastIndex(x, ":")])
	}
	return strings.Join(s, " ")
}

// mustNew is a session that is new.
func mustNew(t *testing.T, size, retry int, life int64) *Session {
	t.Helper()
	s, err := New(size, retry, life)
	if err != nil || s == nil {
		t.Fatalf("New(%d, %d, %d): %v", size, retry, life, err)
	}
	return s
}

// mustBeOn makes a session, of which nothing is out, one that is On.
func mustBeOn(t *testing.T, s *Session) {
	t.Helper()
	if _, err := s.Ask(9); err != nil {
		t.Fatal(err)
	}
	if err := s.Answer(9, 0, 0); err != nil {
		t.Fatal(err)
	}
}

// newOn is a session that is On, whose first number is start.
func newOn(t *testing.T, start, size, retry int) *Session {
	t.Helper()
	s := mustNew(t, size, retry, life)
	pass(t, s, start)
	mustBeOn(t, s)
	return s
}

// pass lets n frames through a session of which nothing is out.
func pass(t *testing.T, s *Session, n int) {
	t.Helper()
	for range n {
		m, err := s.Fresh(api.Packet{}, 0)
		if err != nil {
			t.Fatal(err)
		}
		if err := s.Went(m.Seq); err != nil {
			t.Fatal(err)
		}
		if l, err := s.Heard(api.Ack{Seq: m.Seq, Map: 1}); len(l) != 1 || err != nil {
			t.Fatal(l, err)
		}
	}
}

// hand hands in a packet whose memory has more behind it, and writes into all of that afterwards.
func hand(t *testing.T, s *Session, id int, now int64) (api.Mpdu, error) {
	t.Helper()
	p := packet(id)
	was := bytes.Clone(p.Body)
	memory := append(bytes.Clone(p.Body), spoil, spoil, spoil)
	p.Body = memory[:len(was)]
	m, err := s.Fresh(p, now)
	if !bytes.Equal(memory, append(was, spoil, spoil, spoil)) {
		t.Errorf("Fresh of %d wrote into its Body", id)
	}
	for i := range memory {
		memory[i] = spoil
	}
	return m, err
}

// mustFresh fails unless packets, from id on, get n numbers, from first on.
func mustFresh(t *testing.T, s *Session, first, n, id int, now int64) {
	t.Helper()
	for i := range n {
		m, err := hand(t, s, id+i, now)
		want := strconv.Itoa((first+i)%round) + ":" + strconv.Itoa(id+i) + ":0:" + strconv.FormatInt(now+s.life, 10)
		if got := tell(t, []api.Mpdu{m}); got != want || err != nil {
			t.Errorf("Fresh of %d = %s, %v, want %s", id+i, got, err, want)
		}
	}
}

// mustNotFresh fails unless a packet is refused, and nothing changes.
func mustNotFresh(t *testing.T, s *Session, want error) {
	t.Helper()
	mustStay(t, s, func() {
		m, err := hand(t, s, 77, 0)
		if err != want || m.Packet.ID != 0 || m.Packet.Body != nil || m.Seq != 0 || m.Until != 0 {
			t.Errorf("Fresh = %+v, %v, want %v", m, err, want)
		}
	})
}

// mustGo fails unless these fly then.
func mustGo(t *testing.T, s *Session, seqs ...int) {
	t.Helper()
	was := slices.Clone(seqs)
	if err := s.Went(seqs...); err != nil {
		t.Errorf("Went(%v): %v", seqs, err)
	}
	if !slices.Equal(seqs, was) {
		t.Errorf("Went wrote into %v", was)
	}
}

// mustNotGo fails unless these are refused, and nothing changes.
func mustNotGo(t *testing.T, s *Session, want error, seqs ...int) {
	t.Helper()
	mustStay(t, s, func() {
		if err := s.Went(seqs...); err != want {
			t.Errorf("Went(%v): %v, want %v", seqs, err, want)
		}
	})
}

// mustHear fails unless an Ack acknowledges these.
func mustHear(t *testing.T, s *Session, from int, bits uint64, want string) {
	t.Helper()
	l, err := s.Heard(api.Ack{Seq: from, Map: bits})
	if got := short(t, l); got != want || err != nil {
		t.Errorf("Heard(%d, %b) = %s, %v, want %s", from, bits, got, err, want)
	}
}

// mustNotHear fails unless an Ack is refused, and nothing changes.
func mustNotHear(t *testing.T, s *Session, want error, from int, bits uint64) {
	t.Helper()
	mustStay(t, s, func() {
		if l, err := s.Heard(api.Ack{Seq: from, Map: bits}); len(l) > 0 || err != want {
			t.Errorf("Heard(%d, %b) = %v, %v, want %v", from, bits, l, err, want)
		}
	})
}

// mustLose fails unless something flies, which is due then.
func mustLose(t *testing.T, s *Session) {
	t.Helper()
	if err := s.Lost(); err != nil {
		t.Errorf("Lost: %v", err)
	}
}

// mustNotLose fails unless nothing flies, and nothing changes.
func mustNotLose(t *testing.T, s *Session) {
	t.Helper()
	mustStay(t, s, func() {
		if err := s.Lost(); err != api.ErrState {
			t.Errorf("Lost: %v", err)
		}
	})
}

// mustSweep fails unless these are dropped, why is told, and nothing is left for a second time.
func mustSweep(t *testing.T, s *Session, now int64, want string, whys ...int) {
	t.Helper()
	l, why := s.Sweep(now)
	if got := short(t, l); got != want || !slices.Equal(why, whys) {
		t.Errorf("Sweep(%d) = %s, %v, want %s, %v", now, got, why, want, whys)
	}
	for i := range why[:cap(why)] {
		why[:cap(why)][i] = 77
	}
	mustStay(t, s, func() {
		if l, why := s.Sweep(now); len(l)+len(why) > 0 {
			t.Errorf("Sweep(%d) drops %s once more, %v", now, short(t, l), why)
		}
	})
}

// mustAsk fails unless a question is to be asked from there on.
func mustAsk(t *testing.T, s *Session, from int) {
	t.Helper()
	for range 2 {
		if n, is := s.Bar(); n != from || !is {
			t.Errorf("Bar = %d, %v, want %d", n, is, from)
		}
	}
}

// mustNotAsk fails unless none is to be asked.
func mustNotAsk(t *testing.T, s *Session) {
	t.Helper()
	for range 2 {
		if n, is := s.Bar(); n != 0 || is {
			t.Errorf("Bar = %d, %v", n, is)
		}
	}
}

// mustSay fails unless a session tells this of itself, twice.
func mustSay(t *testing.T, s *Session, state int, due, flying string, room, start int) {
	t.Helper()
	for range 2 {
		if got := short(t, s.Due()); got != due {
			t.Errorf("due: %s, want %s", got, due)
		}
		if got := short(t, s.Flying()); got != flying {
			t.Errorf("flying: %s, want %s", got, flying)
		}
		if s.State() != state || s.Room() != room || s.Start() != start {
			t.Errorf("state %d, room %d, from %d, want %d, %d, %d", s.State(), s.Room(), s.Start(), state, room, start)
		}
	}
}

// say is all that a session tells of itself.
func say(t *testing.T, s *Session) string {
	t.Helper()
	from, is := s.Bar()
	return strings.Join([]string{
		strconv.Itoa(s.State()), tell(t, s.Due()), tell(t, s.Flying()), tell(t, s.Out()), strconv.Itoa(s.Room()),
		strconv.Itoa(s.Start()), strconv.Itoa(from), strconv.FormatBool(is),
	}, "|")
}

// mustStay fails if a session tells anything else of itself behind a call.
func mustStay(t *testing.T, s *Session, call func()) {
	t.Helper()
	was := say(t, s)
	call()
	if is := say(t, s); is != was {
		t.Errorf("it was %s, it is %s", was, is)
	}
}

// P16.1: New, State.

func TestNew(t *testing.T) {
	sizes := []int{1, 2, 8, 32, 63, 64}
	wrongSizes := []int{0, 65, -1, -64, 128, 256, 320, 1 << 16, 1<<16 + 1, math.MinInt, math.MaxInt}
	retries := []int{0, 1, 7, 14, 15}
	wrongRetries := []int{-1, 16, -15, 17, 256, 1 << 16, 1<<16 + 1, math.MinInt, math.MaxInt}
	lives := []int64{1, 2, 1000, 1<<32 + 1, longest - 1, longest}
	wrongLives := []int64{0, longest + 1, -1, -longest, 1 << 41, 1 << 62, math.MinInt64, math.MaxInt64}
	all := func(do func(size, retry int, life int64)) {
		for _, size := range slices.Concat(sizes, wrongSizes) {
			for _, retry := range slices.Concat(retries, wrongRetries) {
				for _, life := range slices.Concat(lives, wrongLives) {
					do(size, retry, life)
				}
			}
		}
	}
	all(func(size, retry int, life int64) {
		if slices.Contains(sizes, size) && slices.Contains(retries, retry) && slices.Contains(lives, life) {
			mustSay(t, mustNew(t, size, retry, life), Single, "", "", 1, 0)
			return
		}
		if s, err := New(size, retry, life); s != nil || err != api.ErrRange {
			t.Errorf("New(%d, %d, %d) = %v, %v", size, retry, life, s, err)
		}
	})
}

// TestNewIsEmpty asks all of a new one that it has nothing for.
func TestNewIsEmpty(t *testing.T) {
	s := mustNew(t, biggest, tries, longest)
	mustNotAsk(t, s)
	mustNotLose(t, s)
	mustNotHear(t, s, api.ErrState, 0, math.MaxUint64)
	mustNotGo(t, s, api.ErrNone, 0)
	mustGo(t, s)
	mustSweep(t, s, forever, "")
	mustStay(t, s, func() { s.Barred(true) })
	mustStay(t, s, func() { s.Barred(false) })
	if l := s.Out(); len(l) > 0 {
		t.Errorf("out: %v", l)
	}
	mustSay(t, s, Single, "", "", 1, 0)
}

// TestNumbers: the states have the numbers that the chapter gives them.
func TestNumbers(t *testing.T) {
	if Single != 1 || Asked != 2 || On != 3 {
		t.Error(Single, Asked, On)
	}
}

// P16.1: Ask.

// mustAskFor fails unless a session is asked for, from n on.
func mustAskFor(t *testing.T, s *Session, token, n int) {
	t.Helper()
	if got, err := s.Ask(token); got != n || err != nil || s.State() != Asked {
		t.Errorf("Ask(%d) = %d, %v, state %d, want %d", token, got, err, s.State(), n)
	}
}

// mustNotAskFor fails unless a session is not asked for, and nothing changes.
func mustNotAskFor(t *testing.T, s *Session, token int, want error) {
	t.Helper()
	mustStay(t, s, func() {
		if n, err := s.Ask(token); n != 0 || err != want {
			t.Errorf("Ask(%d) = %d, %v, want %v", token, n, err, want)
		}
	})
}

func TestAsk(t *testing.T) {
	for _, token := range []int{0, 1, 7, 128, 254, 255} {
		s := mustNew(t, 8, retry, life)
		mustAskFor(t, s, token, 0)
		mustSay(t, s, Asked, "", "", 1, 0)
		mustAnswer(t, s, token, 0, 0)
		mustSay(t, s, On, "", "", 8, 0)
	}
}

// TestAskOfWrong: a token that may not be is told first, whatever the state.
func TestAskOfWrong(t *testing.T) {
	for _, token := range []int{-1, 256, 257, -255, 512, 1 << 16, math.MinInt, math.MaxInt} {
		s := mustNew(t, 8, retry, life)
		mustNotAskFor(t, s, token, api.ErrRange)
		mustFresh(t, s, 0, 1, 1, 0)
		mustNotAskFor(t, s, token, api.ErrRange)
		mustGo(t, s, 0)
		mustNotAskFor(t, s, token, api.ErrRange)
		mustHear(t, s, 0, 1, "0:1:1")
		mustAskFor(t, s, 5, 1)
		mustNotAskFor(t, s, token, api.ErrRange)
		mustAnswer(t, s, 5, 0, 0)
		mustNotAskFor(t, s, token, api.ErrRange)
	}
}

// TestAskInState: it has to be Single, and nothing out.
func TestAskInState(t *testing.T) {
	s := mustNew(t, 8, 0, life)
	mustFresh(t, s, 0, 1, 1, 0)
	mustNotAskFor(t, s, 5, api.ErrState)
	mustGo(t, s, 0)
	mustNotAskFor(t, s, 5, api.ErrState)
	mustLose(t, s)
	mustNotAskFor(t, s, 5, api.ErrState)
	mustSweep(t, s, 0, "0:1:1", api.ByRetry)
	mustAskFor(t, s, 5, 1)
	mustNotAskFor(t, s, 5, api.ErrState)
	mustNotAskFor(t, s, 6, api.ErrState)
	// What was refused is not the token that it waits for.
	mustNotAnswer(t, s, 6, 0, 0, api.ErrState)
	mustAnswer(t, s, 5, 0, 0)
	mustNotAskFor(t, s, 5, api.ErrState)
	mustFresh(t, s, 1, 2, 2, 0)
	mustNotAskFor(t, s, 5, api.ErrState)
}

// TestAskTellsTheNext: the number from which on the session is, at each place and round.
func TestAskTellsTheNext(t *testing.T) {
	s := mustNew(t, 8, retry, life)
	for i := range round + 3 {
		mustAskFor(t, s, i%256, i%round)
		mustAnswer(t, s, i%256, 1, 0)
		pass(t, s, 1)
	}
	s = newOn(t, 0, 8, retry)
	mustFresh(t, s, 0, 8, 1, 0)
	mustGo(t, s, 0, 1, 2, 3, 4, 5, 6, 7)
	mustHear(t, s, 0, 0xff, "0:1:1 1:2:1 2:3:1 3:4:1 4:5:1 5:6:1 6:7:1 7:8:1")
	mustEnd(t, s)
	mustAskFor(t, s, 0, 8)
}

// P16.1: Answer.

// mustAnswer fails unless an answer is taken.
func mustAnswer(t *testing.T, s *Session, token, status, size int) {
	t.Helper()
	if err := s.Answer(token, status, size); err != nil {
		t.Errorf("Answer(%d, %d, %d): %v", token, status, size, err)
	}
}

// mustNotAnswer fails unless an answer is refused, and nothing changes.
func mustNotAnswer(t *testing.T, s *Session, token, status, size int, want error) {
	t.Helper()
	mustStay(t, s, func() {
		if err := s.Answer(token, status, size); err != want {
			t.Errorf("Answer(%d, %d, %d): %v, want %v", token, status, size, err, want)
		}
	})
}

// TestAnswerOfSizes: the window is of New's size, and no more than what was answered, but for 0.
func TestAnswerOfSizes(t *testing.T) {
	for _, size := range []int{1, 2, 8, 63, 64} {
		for _, answered := range []int{0, 1, 2, 7, 8, 9, 62, 63, 64, 65, 128, 256, 1022, 1023} {
			want := size
			if answered > 0 && answered < size {
				want = answered
			}
			s := mustNew(t, size, retry, life)
			pass(t, s, 4090)
			mustAskFor(t, s, 3, 4090)
			mustAnswer(t, s, 3, 0, answered)
			mustSay(t, s, On, "", "", want, 4090)
			mustFresh(t, s, 4090, want, 1, 0)
			mustNotFresh(t, s, api.ErrFull)
		}
	}
}

// TestAnswerForgetsNoSize: a smaller window is that of one session alone.
func TestAnswerForgetsNoSize(t *testing.T) {
	s := mustNew(t, 8, retry, life)
	for _, x := range []struct{ answered, want int }{{3, 3}, {5, 5}, {0, 8}, {1, 1}, {1023, 8}} {
		mustAskFor(t, s, 3, 0)
		mustAnswer(t, s, 3, 0, x.answered)
		mustSay(t, s, On, "", "", x.want, 0)
		mustEnd(t, s)
		mustSay(t, s, Single, "", "", 1, 0)
	}
}

// TestAnswerInState: it has to be Asked, by that token.
func TestAnswerInState(t *testing.T) {
	s := mustNew(t, 8, retry, life)
	mustNotAnswer(t, s, 0, 0, 0, api.ErrState)
	mustNotAnswer(t, s, 0, 1, 0, api.ErrState)
	mustNotAnswer(t, s, 0, 0, -1, api.ErrState)
	mustAskFor(t, s, 3, 0)
	for _, token := range []int{0, 2, 4, 255, -1, 256, 259, -3, math.MinInt, math.MaxInt} {
		mustNotAnswer(t, s, token, 0, 0, api.ErrState)
		mustNotAnswer(t, s, token, 1, 0, api.ErrState)
		mustNotAnswer(t, s, token, 0, tooGreat, api.ErrState)
	}
	mustAnswer(t, s, 3, 0, 5)
	for _, size := range []int{0, 1, 5, 8, -1, tooGreat} {
		mustNotAnswer(t, s, 3, 0, size, api.ErrState)
		mustNotAnswer(t, s, 3, 1, size, api.ErrState)
	}
	mustFresh(t, s, 0, 2, 1, 0)
	mustNotAnswer(t, s, 3, 0, 0, api.ErrState)
	mustNotAnswer(t, s, 3, 1, 0, api.ErrState)
}

// TestAnswerOfStatus: one that is not 0 makes it Single, whatever size it comes with.
func TestAnswerOfStatus(t *testing.T) {
	for _, status := range []int{1, 2, 37, 65535, -1, 1 << 16, math.MaxInt32, math.MinInt, math.MaxInt} {
		for _, size := range []int{0, 1, 5, 1023, -1, tooGreat, math.MinInt, math.MaxInt} {
			s := mustNew(t, 8, retry, life)
			pass(t, s, 2)
			mustAskFor(t, s, 3, 2)
			mustAnswer(t, s, 3, status, size)
			mustSay(t, s, Single, "", "", 1, 2)
			mustNotAnswer(t, s, 3, 0, 0, api.ErrState)
			mustFresh(t, s, 2, 1, 1, 0)
			mustNotFresh(t, s, api.ErrFull)
		}
	}
}

// TestAnswerOfWrongSize: it is Asked still, and another answer may come.
func TestAnswerOfWrongSize(t *testing.T) {
	for _, size := range []int{-1, tooGreat, -1023, 1025, 2047, 1 << 16, 1<<16 + 5, math.MinInt, math.MaxInt} {
		s := mustNew(t, 8, retry, life)
		mustAskFor(t, s, 3, 0)
		mustNotAnswer(t, s, 3, 0, size, api.ErrRange)
		mustSay(t, s, Asked, "", "", 1, 0)
		mustNotFresh(t, s, api.ErrState)
		c := s.Clone()
		mustAnswer(t, s, 3, 0, 4)
		mustSay(t, s, On, "", "", 4, 0)
		mustAnswer(t, c, 3, 1, 4)
		mustSay(t, c, Single, "", "", 1, 0)
	}
}

// TestAskedAgain: each asking has a token of its own.
func TestAskedAgain(t *testing.T) {
	s := mustNew(t, 8, retry, life)
	mustAskFor(t, s, 1, 0)
	mustAnswer(t, s, 1, 9, 0)
	mustAskFor(t, s, 2, 0)
	mustNotAnswer(t, s, 1, 0, 0, api.ErrState)
	mustEnd(t, s)
	mustNotAnswer(t, s, 2, 0, 0, api.ErrState)
	mustAskFor(t, s, 0, 0)
	mustNotAnswer(t, s, 2, 0, 0, api.ErrState)
	mustAnswer(t, s, 0, 0, 0)
	mustSay(t, s, On, "", "", 8, 0)
}

// P16.1: End.

// mustEnd fails unless a session ends.
func mustEnd(t *testing.T, s *Session) {
	t.Helper()
	if err := s.End(); err != nil {
		t.Errorf("End: %v", err)
	}
}

// mustNotEnd fails unless a session does not end, and nothing changes.
func mustNotEnd(t *testing.T, s *Session) {
	t.Helper()
	mustStay(t, s, func() {
		if err := s.End(); err != api.ErrState {
			t.Errorf("End: %v", err)
		}
	})
}

// TestEndOfSingle: there is no session, whether something is out or not.
func TestEndOfSingle(t *testing.T) {
	s := mustNew(t, 8, retry, life)
	mustNotEnd(t, s)
	mustFresh(t, s, 0, 1, 1, 0)
	mustNotEnd(t, s)
	mustGo(t, s, 0)
	mustNotEnd(t, s)
	mustHear(t, s, 0, 1, "0:1:1")
	mustNotEnd(t, s)
}

func TestEndOfAsked(t *testing.T) {
	s := mustNew(t, 8, retry, life)
	mustAskFor(t, s, 3, 0)
	mustEnd(t, s)
	mustSay(t, s, Single, "", "", 1, 0)
	mustNotEnd(t, s)
	mustFresh(t, s, 0, 1, 1, 0)
	mustNotFresh(t, s, api.ErrFull)
}

// TestEndOfOn: not while something is out; its window is of 1 then, from where it was.
func TestEndOfOn(t *testing.T) {
	s := newOn(t, 4094, 4, retry)
	mustFresh(t, s, 4094, 3, 1, 0)
	mustNotEnd(t, s)
	mustGo(t, s, 4095)
	mustNotEnd(t, s)
	mustHear(t, s, 4095, 1, "4095:2:1")
	mustNotEnd(t, s)
	mustGo(t, s, 0, 4094)
	mustNotEnd(t, s)
	mustHear(t, s, 4094, 1, "4094:1:1")
	mustNotEnd(t, s)
	mustSay(t, s, On, "0:3:1", "", 3, 0)
	mustGo(t, s, 0)
	mustHear(t, s, 0, 1, "0:3:2")
	mustEnd(t, s)
	mustSay(t, s, Single, "", "", 1, 1)
	mustNotEnd(t, s)
	mustFresh(t, s, 1, 1, 4, 0)
	mustNotFresh(t, s, api.ErrFull)
}

// TestEndOfQuestion: none is to be asked then, and one that is to be asked later counts anew.
func TestEndOfQuestion(t *testing.T) {
	s := newOn(t, 0, 4, 1)
	mustFresh(t, s, 0, 2, 1, 0)
	mustSweep(t, s, life+1, "0:1:0 1:2:0", api.ByLife, api.ByLife)
	mustAsk(t, s, 2)
	s.Barred(false)
	mustAsk(t, s, 2)
	mustEnd(t, s)
	mustNotAsk(t, s)
	mustFresh(t, s, 2, 1, 3, 0)
	mustSweep(t, s, life+1, "2:3:0", api.ByLife)
	mustNotAsk(t, s)
	mustBeOn(t, s)
	mustNotAsk(t, s)
	mustFresh(t, s, 3, 1, 4, 0)
	mustSweep(t, s, life+1, "3:4:0", api.ByLife)
	mustAsk(t, s, 4)
	s.Barred(false)
	mustAsk(t, s, 4)
	s.Barred(false)
	mustNotAsk(t, s)
}

// TestEndWithBoth: a question stays, if it does not end since something is out.
func TestEndWithBoth(t *testing.T) {
	s := newOn(t, 0, 4, retry)
	mustFresh(t, s, 0, 1, 1, 0)
	mustFresh(t, s, 1, 1, 2, 5)
	mustSweep(t, s, life+1, "0:1:0", api.ByLife)
	mustNotEnd(t, s)
	mustAsk(t, s, 1)
	mustGo(t, s, 1)
	mustNotEnd(t, s)
	mustAsk(t, s, 1)
	mustHear(t, s, 1, 1, "1:2:1")
	mustEnd(t, s)
	mustNotAsk(t, s)
}

// P16.2: Fresh, Room, Due.

// TestFresh: a frame is due, never sent, worth it till now and life.
func TestFresh(t *testing.T) {
	for _, life := range []int64{1, 2, 1000, 1 << 33, longest} {
		for _, now := range []int64{0, 1, 12345, 1<<40 + 7, forever} {
			for _, on := range []bool{false, true} {
				s := mustNew(t, 2, retry, life)
				if on {
					mustBeOn(t, s)
				}
				mustFresh(t, s, 0, 1, 7, now)
				want := "0:7:0:" + strconv.FormatInt(now+life, 10)
				for range 2 {
					if due, out, flying := tell(t, s.Due()), tell(t, s.Out()), tell(t, s.Flying()); due != want || out != want || flying != "" {
						t.Errorf("due %s, out %s, flying %s, want %s", due, out, flying, want)
					}
				}
				mustSweep(t, s, now+life, "")
				mustSweep(t, s, now+life+1, "0:7:0", api.ByLife)
			}
		}
	}
}

// TestFreshBeyondTime: the time till which a frame is worth it does not go round.
func TestFreshBeyondTime(t *testing.T) {
	for _, now := range []int64{math.MaxInt64, math.MaxInt64 - 1, math.MaxInt64 - life + 1, math.MaxInt64 - life, math.MaxInt64 - life - 1, math.MinInt64, -1} {
		s := mustNew(t, 2, retry, life)
		if _, err := s.Fresh(packet(1), now); err != nil {
			t.Error(err)
		}
		want := int64(math.MaxInt64)
		if now < want-life {
			want = now + life
		}
		if l := s.Due(); len(l) != 1 || l[0].Until != want {
			t.Errorf("from %d: %v", now, l)
		}
		mustSweep(t, s, now, "")
	}
}

// TestFreshOfAsked: not while it is asked for, though there is room.
func TestFreshOfAsked(t *testing.T) {
	s := mustNew(t, 8, retry, life)
	mustAskFor(t, s, 3, 0)
	mustSay(t, s, Asked, "", "", 1, 0)
	mustNotFresh(t, s, api.ErrState)
	mustAnswer(t, s, 3, 0, 0)
	mustFresh(t, s, 0, 1, 1, 0)
}

// TestFreshOfSingle: one at a time, due or flying.
func TestFreshOfSingle(t *testing.T) {
	s := mustNew(t, 8, retry, life)
	for i := range 5 {
		mustSay(t, s, Single, "", "", 1, i)
		mustFresh(t, s, i, 1, i, 0)
		mustSay(t, s, Single, name(i, i, 0), "", 0, i)
		mustNotFresh(t, s, api.ErrFull)
		mustGo(t, s, i)
		mustSay(t, s, Single, "", name(i, i, 1), 0, i)
		mustNotFresh(t, s, api.ErrFull)
		mustLose(t, s)
		mustNotFresh(t, s, api.ErrFull)
		mustGo(t, s, i)
		mustHear(t, s, i, 1, name(i, i, 2))
	}
}

// name is a frame, as short tells it.
func name(n, id, sent int) string {
	return strconv.Itoa(n%round) + ":" + strconv.Itoa(id) + ":" + strconv.Itoa(sent)
}

// names are n frames, from a number and a packet on, each sent so often.
func names(first, n, id, sent int) string {
	var s []string
	for i := range n {
		s = append(s, name(first+i, id+i, sent))
	}
	return strings.Join(s, " ")
}

// TestRoom: so many as the window gives still; those that were done in its middle make none.
func TestRoom(t *testing.T) {
	for _, size := range []int{1, 2, 5, 63, 64} {
		for _, start := range []int{0, 1, 4040, 4095} {
			s := newOn(t, start, size, retry)
			for i := range size {
				mustSay(t, s, On, names(start, i, 1, 0), "", size-i, start)
				mustFresh(t, s, start+i, 1, 1+i, 0)
			}
			mustSay(t, s, On, names(start, size, 1, 0), "", 0, start)
			mustNotFresh(t, s, api.ErrFull)
			for i := size - 1; i > 0; i-- {
				mustGo(t, s, (start+i)%round)
				mustHear(t, s, (start+i)%round, 1, name(start+i, 1+i, 1))
				mustSay(t, s, On, names(start, i, 1, 0), "", 0, start)
				mustNotFresh(t, s, api.ErrFull)
			}
			mustGo(t, s, start)
			mustHear(t, s, start, 1, name(start, 1, 1))
			mustSay(t, s, On, "", "", size, (start+size)%round)
		}
	}
}

// TestFreshWithQuestion: not while one is to be asked, though there is room; room stays what it is.
func TestFreshWithQuestion(t *testing.T) {
	s := newOn(t, 0, 4, retry)
	mustFresh(t, s, 0, 2, 1, 0)
	mustFresh(t, s, 2, 1, 3, 9)
	mustSweep(t, s, life+1, "0:1:0 1:2:0", api.ByLife, api.ByLife)
	mustSay(t, s, On, "2:3:0", "", 3, 2)
	mustNotFresh(t, s, api.ErrFull)
	c := s.Clone()
	s.Barred(true)
	mustFresh(t, s, 3, 3, 4, 9)
	mustNotFresh(t, s, api.ErrFull)
	for range retry {
		c.Barred(false)
		mustNotFresh(t, c, api.ErrFull)
	}
	c.Barred(false)
	mustFresh(t, c, 3, 3, 4, 9)
	mustNotFresh(t, c, api.ErrFull)
}

// TestByTheWindow: those that are out are told from Start on, not by number, and not as they went.
func TestByTheWindow(t *testing.T) {
	s := newOn(t, 4093, 8, tries)
	mustFresh(t, s, 4093, 6, 1, 0)
	mustGo(t, s, 1, 4095, 4093)
	mustSay(t, s, On, "4094:2:0 0:4:0 2:6:0", "4093:1:1 4095:3:1 1:5:1", 2, 4093)
	if got := short(t, s.Out()); got != "4093:1:1 4094:2:0 4095:3:1 0:4:0 1:5:1 2:6:0" {
		t.Errorf("out: %s", got)
	}
	mustLose(t, s)
	mustGo(t, s, 2, 0, 4093, 1, 4095, 4094)
	mustSay(t, s, On, "", "4093:1:2 4094:2:1 4095:3:2 0:4:1 1:5:2 2:6:1", 2, 4093)
	mustHear(t, s, 4090, 0b101001000, "4093:1:2 0:4:1 2:6:1")
	mustSay(t, s, On, "4094:2:1 4095:3:2 1:5:2", "", 3, 4094)
	mustFresh(t, s, 3, 3, 7, 0)
	mustSay(t, s, On, "4094:2:1 4095:3:2 1:5:2 3:7:0 4:8:0 5:9:0", "", 0, 4094)
}

// P16.2: Went.

// TestWentOfNone: none may be named; nothing flies then.
func TestWentOfNone(t *testing.T) {
	s := newOn(t, 0, 4, retry)
	mustStay(t, s, func() { mustGo(t, s) })
	mustFresh(t, s, 0, 2, 1, 0)
	mustStay(t, s, func() { mustGo(t, s) })
	mustNotLose(t, s)
	mustGo(t, s, 1)
	mustNotGo(t, s, api.ErrState)
	mustNotGo(t, s, api.ErrState, []int{}...)
	mustHear(t, s, 1, 1, "1:2:1")
	mustStay(t, s, func() { mustGo(t, s) })
}

// TestWentOfOther: what is not due is told first, wherever it is named, and whether something flies or not.
func TestWentOfOther(t *testing.T) {
	for _, start := range []int{0, 1, 2047, 4094} {
		s := newOn(t, start, 8, tries)
		n := func(i int) int { return (start + i) % round }
		none := func() {
			t.Helper()
			for _, other := range slices.Concat(wrongSeqs, []int{n(-1 + round), n(8), n(6), n(5), n(64), n(2048), n(2) + round, n(2) - round}) {
				mustNotGo(t, s, api.ErrNone, other)
				mustNotGo(t, s, api.ErrNone, n(2), other)
				mustNotGo(t, s, api.ErrNone, other, n(2))
				mustNotGo(t, s, api.ErrNone, n(3), other, n(2))
			}
		}
		mustFresh(t, s, start, 5, 1, 0)
		none()
		mustNotGo(t, s, api.ErrNone, n(2), n(2))
		mustNotGo(t, s, api.ErrNone, n(2), n(3), n(2))
		mustNotGo(t, s, api.ErrNone, n(0), n(1), n(2), n(3), n(4), n(0))
		mustGo(t, s, n(1), n(4))
		none()
		mustNotGo(t, s, api.ErrNone, n(1))
		mustNotGo(t, s, api.ErrNone, n(2), n(4))
		mustNotGo(t, s, api.ErrNone, n(2), n(2))
		mustNotGo(t, s, api.ErrState, n(2))
		mustNotGo(t, s, api.ErrState, n(3), n(0), n(2))
		mustHear(t, s, n(1), 1, name(start+1, 2, 1))
		none()
		mustNotGo(t, s, api.ErrNone, n(1))
		mustNotGo(t, s, api.ErrNone, n(0), n(1))
		mustGo(t, s, n(4), n(0))
		mustSay(t, s, On, names(start+2, 2, 3, 0), name(start, 1, 1)+" "+name(start+4, 5, 2), 3, start)
	}
}

// TestWentCounts: each is sent once more by each time that it goes, and the others are not.
func TestWentCounts(t *testing.T) {
	s := newOn(t, 0, 3, 0)
	mustFresh(t, s, 0, 3, 1, 0)
	for i := range 40 {
		mustGo(t, s, 2, 0)
		mustSay(t, s, On, "1:2:0", name(0, 1, i+1)+" "+name(2, 3, i+1), 0, 0)
		if i%2 == 0 {
			mustLose(t, s)
		} else {
			mustHear(t, s, 0, 0, "")
		}
		mustSay(t, s, On, name(0, 1, i+1)+" 1:2:0 "+name(2, 3, i+1), "", 0, 0)
	}
	mustSweep(t, s, 0, "0:1:40 2:3:40", api.ByRetry, api.ByRetry)
}

// TestWentOfAll: a whole window goes, in any order; one number more is too many.
func TestWentOfAll(t *testing.T) {
	for _, start := range []int{0, 4000, 4060} {
		s := newOn(t, start, biggest, retry)
		mustFresh(t, s, start, biggest, 1, 0)
		var l []int
		for i := range biggest {
			l = append(l, (start+i*37%biggest)%round)
		}
		mustNotGo(t, s, api.ErrNone, append(slices.Clone(l), l[0])...)
		mustNotGo(t, s, api.ErrNone, append(slices.Clone(l), l[63])...)
		mustNotGo(t, s, api.ErrNone, append(slices.Clone(l), (start+64)%round)...)
		mustGo(t, s, l...)
		mustSay(t, s, On, "", names(start, biggest, 1, 1), 0, start)
		mustHear(t, s, start, math.MaxUint64, names(start, biggest, 1, 1))
		mustSay(t, s, On, "", "", biggest, (start+biggest)%round)
	}
}

// P16.2: Heard and Lost.

// TestHeardOfState: that nothing flies is told first.
func TestHeardOfState(t *testing.T) {
	for _, from := range append([]int{0, 1, 5, 63, 4095}, wrongSeqs...) {
		s := newOn(t, 0, 4, retry)
		mustNotHear(t, s, api.ErrState, from, math.MaxUint64)
		mustFresh(t, s, 0, 2, 1, 0)
		mustNotHear(t, s, api.ErrState, from, math.MaxUint64)
		mustGo(t, s, 1)
		mustLose(t, s)
		mustNotHear(t, s, api.ErrState, from, math.MaxUint64)
		mustNotLose(t, s)
	}
	s := mustNew(t, 4, retry, life)
	mustAskFor(t, s, 3, 0)
	mustNotHear(t, s, api.ErrState, 0, 1)
	mustNotLose(t, s)
}

// TestHeardOfSeq: a number that may not be, or from which on none that flies is less than 64 away.
func TestHeardOfSeq(t *testing.T) {
	for _, start := range []int{0, 1, 100, 4090, 4095} {
		s := newOn(t, start, biggest, retry)
		mustFresh(t, s, start, biggest, 1, 0)
		mustGo(t, s, (start+10)%round, (start+12)%round)
		for _, from := range wrongSeqs {
			mustNotHear(t, s, api.ErrSeq, from, math.MaxUint64)
			mustNotHear(t, s, api.ErrSeq, from, 0)
		}
		for i := range round {
			from := (start + i) % round
			// From 10 less 63 up to 12: one that flies is less than 64 away.
			if i <= 12 || i >= 10-63+round {
				continue
			}
			mustNotHear(t, s, api.ErrSeq, from, math.MaxUint64)
		}
		for _, x := range []struct {
			i    int
			bits uint64
			want string
		}{
			{10, 0b101, names(start+10, 1, 11, 1) + " " + names(start+12, 1, 13, 1)},
			{10, 0b011, names(start+10, 1, 11, 1)},
			{11, math.MaxUint64, names(start+12, 1, 13, 1)},
			{11, 0b101, ""},
			{12, 1, names(start+12, 1, 13, 1)},
			{12, math.MaxUint64 - 1, ""},
			{10 - 63, 1 << 63, names(start+10, 1, 11, 1)},
			{10 - 63, math.MaxUint64 >> 1, ""},
			{10 - 62, 3 << 62, names(start+10, 1, 11, 1)},
			{12 - 63, 1<<61 | 1<<63, names(start+10, 1, 11, 1) + " " + names(start+12, 1, 13, 1)},
			{0, 1<<10 | 1<<12, names(start+10, 1, 11, 1) + " " + names(start+12, 1, 13, 1)},
			{0, 0, ""},
		} {
			c := s.Clone()
			mustHear(t, c, (start+x.i+round)%round, x.bits, x.want)
			mustNotLose(t, c)
		}
		mustSay(t, s, On, names(start, 10, 1, 0)+" "+names(start+11, 1, 12, 0)+" "+names(start+13, 51, 14, 0), names(start+10, 1, 11, 1)+" "+names(start+12, 1, 13, 1), 0, start)
	}
}

// TestHeardOfEach: each bit is that of one number.
func TestHeardOfEach(t *testing.T) {
	for _, start := range []int{0, 4050} {
		full := newOn(t, start, biggest, retry)
		mustFresh(t, full, start, biggest, 1, 0)
		var l []int
		for i := range biggest {
			l = append(l, (start+i)%round)
		}
		mustGo(t, full, l...)
		for i := range biggest {
			s := full.Clone()
			mustHear(t, s, start, 1<<i, name(start+i, 1+i, 1))
			want := strings.Trim(names(start, i, 1, 1)+" "+names(start+i+1, 63-i, 2+i, 1), " ")
			room, first := 0, start
			if i == 0 {
				room, first = 1, start+1
			}
			mustSay(t, s, On, want, "", room, first)
			// From i on, or i less than it: those that are further away are due.
			s = full.Clone()
			mustHear(t, s, (start+i)%round, math.MaxUint64, names(start+i, biggest-i, 1+i, 1))
			mustNotLose(t, s)
			if got := short(t, s.Due()); got != names(start, i, 1, 1) {
				t.Errorf("due: %s", got)
			}
			s = full.Clone()
			mustHear(t, s, (start-i+round)%round, math.MaxUint64, names(start, biggest-i, 1, 1))
			if got := short(t, s.Due()); got != names(start+biggest-i, i, 1+biggest-i, 1) {
				t.Errorf("due: %s", got)
			}
		}
	}
}

// TestHeardOfOthers: bits for what does not fly count for nothing.
func TestHeardOfOthers(t *testing.T) {
	s := newOn(t, 4094, 8, retry)
	mustFresh(t, s, 4094, 5, 1, 0)
	mustGo(t, s, 0, 1)
	mustHear(t, s, 4094, 1<<2, "0:3:1")
	// 0 is acknowledged already, 4094, 4095 and 2 were never sent, 3 was never given out.
	mustGo(t, s, 1)
	mustHear(t, s, 4090, math.MaxUint64, "1:4:2")
	mustSay(t, s, On, "4094:1:0 4095:2:0 2:5:0", "", 3, 4094)
	mustGo(t, s, 4095, 2)
	mustHear(t, s, 4094, 1|1<<2|1<<3|1<<5|1<<63, "")
	mustSay(t, s, On, "4094:1:0 4095:2:1 2:5:1", "", 3, 4094)
	mustFresh(t, s, 3, 3, 6, 0)
}

// TestHeardOfWhom: to whom an Ack is, from whom, and of what, is not the session's to ask.
func TestHeardOfWhom(t *testing.T) {
	s := newOn(t, 0, 8, retry)
	mustFresh(t, s, 0, 2, 1, 0)
	mustGo(t, s, 0, 1)
	l, err := s.Heard(api.Ack{To: api.Addr{1}, From: api.Addr{2}, TID: 99, Seq: 0, Map: 2})
	if got := short(t, l); got != "1:2:1" || err != nil {
		t.Error(got, err)
	}
}

func TestLost(t *testing.T) {
	s := newOn(t, 4095, 4, retry)
	mustFresh(t, s, 4095, 4, 1, 0)
	mustNotLose(t, s)
	mustGo(t, s, 4095, 1)
	mustLose(t, s)
	mustSay(t, s, On, "4095:1:1 0:2:0 1:3:1 2:4:0", "", 0, 4095)
	mustNotLose(t, s)
	mustGo(t, s, 0)
	mustLose(t, s)
	mustNotLose(t, s)
	mustSay(t, s, On, "4095:1:1 0:2:1 1:3:1 2:4:0", "", 0, 4095)
}

// P16.3: Sweep.

// TestSweepOfLife: at the very time till which it is worth it a frame stays, one later it goes.
func TestSweepOfLife(t *testing.T) {
	s := newOn(t, 0, 8, retry)
	for i := range 5 {
		mustFresh(t, s, i, 1, 1+i, int64(10*i))
	}
	mustGo(t, s, 1, 3)
	mustLose(t, s)
	mustSweep(t, s, life, "")
	mustNotAsk(t, s)
	mustSweep(t, s, life+1, "0:1:0", api.ByLife)
	mustAsk(t, s, 1)
	mustSweep(t, s, life+20, "1:2:1", api.ByLife)
	mustAsk(t, s, 2)
	mustSweep(t, s, life+31, "2:3:0 3:4:1", api.ByLife, api.ByLife)
	mustAsk(t, s, 4)
	mustSay(t, s, On, "4:5:0", "", 7, 4)
	mustSweep(t, s, forever, "4:5:0", api.ByLife)
	mustAsk(t, s, 5)
	mustSweep(t, s, forever, "")
	mustAsk(t, s, 5)
	mustSay(t, s, On, "", "", 8, 5)
}

// TestSweepOfRetry: sent as often as may be a frame stays, once more it goes.
func TestSweepOfRetry(t *testing.T) {
	for _, retry := range []int{0, 1, 2, 7, 14, 15} {
		s := newOn(t, 4095, 4, retry)
		mustFresh(t, s, 4095, 2, 1, 0)
		for i := range retry {
			mustSweep(t, s, life, "")
			mustGo(t, s, 4095)
			mustSweep(t, s, life, "")
			mustLose(t, s)
			mustSay(t, s, On, name(4095, 1, i+1)+" 0:2:0", "", 2, 4095)
		}
		mustSweep(t, s, life, "")
		mustNotAsk(t, s)
		mustGo(t, s, 4095)
		mustSweep(t, s, life, "")
		mustNotAsk(t, s)
		mustHear(t, s, 4095, 2, "")
		mustSweep(t, s, 0, name(4095, 1, retry+1), api.ByRetry)
		mustAsk(t, s, 0)
		mustSay(t, s, On, "0:2:0", "", 3, 0)
	}
}

// TestSweepOfBoth: what was sent too often is told so, though it is worth it no more either.
func TestSweepOfBoth(t *testing.T) {
	s := newOn(t, 0, 8, 1)
	mustFresh(t, s, 0, 5, 1, 0)
	mustGo(t, s, 0, 2, 3)
	mustLose(t, s)
	mustGo(t, s, 2, 4)
	mustLose(t, s)
	mustSweep(t, s, life+1, "0:1:1 1:2:0 2:3:2 3:4:1 4:5:1", api.ByLife, api.ByLife, api.ByRetry, api.ByLife, api.ByLife)
	mustAsk(t, s, 5)
}

// TestSweepOfFlying: what flies is not swept, however often it was sent, however late it is.
func TestSweepOfFlying(t *testing.T) {
	s := newOn(t, 4094, 8, 0)
	mustFresh(t, s, 4094, 4, 1, 0)
	mustGo(t, s, 4094, 4095, 1)
	mustSweep(t, s, life, "")
	mustNotAsk(t, s)
	mustSweep(t, s, forever, "0:3:0", api.ByLife)
	mustSay(t, s, On, "", "4094:1:1 4095:2:1 1:4:1", 4, 4094)
	mustAsk(t, s, 4094)
	mustHear(t, s, 4095, 1, "4095:2:1")
	mustSay(t, s, On, "4094:1:1 1:4:1", "", 4, 4094)
	mustSweep(t, s, 0, "4094:1:1 1:4:1", api.ByRetry, api.ByRetry)
	mustSay(t, s, On, "", "", 8, 2)
	mustAsk(t, s, 2)
}

// TestSweepOfSingle: it asks no question.
func TestSweepOfSingle(t *testing.T) {
	s := mustNew(t, 8, 0, life)
	for i := range 4 {
		mustFresh(t, s, i, 1, i, 0)
		if i%2 == 0 {
			mustGo(t, s, i)
			mustSweep(t, s, forever, "")
			mustHear(t, s, i, 0, "")
			mustSweep(t, s, 0, name(i, i, 1), api.ByRetry)
		} else {
			mustSweep(t, s, life, "")
			mustSweep(t, s, life+1, name(i, i, 0), api.ByLife)
		}
		mustNotAsk(t, s)
		mustSay(t, s, Single, "", "", 1, i+1)
	}
	mustBeOn(t, s)
	mustNotAsk(t, s)
}

// TestSweepOfAsked: nothing is out.
func TestSweepOfAsked(t *testing.T) {
	s := mustNew(t, 8, 0, life)
	mustAskFor(t, s, 3, 0)
	mustSweep(t, s, forever, "")
	mustNotAsk(t, s)
	mustSay(t, s, Asked, "", "", 1, 0)
}

// TestSweepOfAll: a whole window at once, round.
func TestSweepOfAll(t *testing.T) {
	s := newOn(t, 4060, biggest, 0)
	mustFresh(t, s, 4060, biggest, 1, 0)
	var why []int
	for range biggest {
		why = append(why, api.ByLife)
	}
	mustSweep(t, s, life+1, names(4060, biggest, 1, 0), why...)
	mustAsk(t, s, 28)
	mustSay(t, s, On, "", "", biggest, 28)
}

// P16.3: Bar and Barred.

// TestQuestionIsFromStart: as it is behind what was dropped, also if that was not the first one.
func TestQuestionIsFromStart(t *testing.T) {
	s := newOn(t, 4095, 8, 0)
	mustFresh(t, s, 4095, 4, 1, 0)
	mustGo(t, s, 0)
	mustLose(t, s)
	mustSweep(t, s, 0, "0:2:1", api.ByRetry)
	mustAsk(t, s, 4095)
	mustGo(t, s, 4095)
	mustLose(t, s)
	mustSweep(t, s, 0, "4095:1:1", api.ByRetry)
	mustAsk(t, s, 1)
	mustGo(t, s, 2)
	mustLose(t, s)
	mustSweep(t, s, 0, "2:4:1", api.ByRetry)
	mustAsk(t, s, 1)
	mustGo(t, s, 1)
	mustLose(t, s)
	mustSweep(t, s, 0, "1:3:1", api.ByRetry)
	mustAsk(t, s, 3)
}

// TestQuestionStays: from where on it is hangs on the Sweep that it comes of, not on what is acknowledged later.
func TestQuestionStays(t *testing.T) {
	s := newOn(t, 0, 8, retry)
	mustFresh(t, s, 0, 2, 1, 0)
	mustFresh(t, s, 2, 2, 3, 100)
	mustGo(t, s, 1)
	mustSweep(t, s, life+1, "0:1:0", api.ByLife)
	mustAsk(t, s, 1)
	mustHear(t, s, 1, 1, "1:2:1")
	mustSay(t, s, On, "2:3:0 3:4:0", "", 6, 2)
	mustAsk(t, s, 1)
	mustSweep(t, s, life+100, "")
	mustAsk(t, s, 1)
	s.Barred(false)
	mustAsk(t, s, 1)
	mustGo(t, s, 2)
	mustSweep(t, s, life+101, "3:4:0", api.ByLife)
	mustAsk(t, s, 2)
	mustHear(t, s, 2, 1, "2:3:1")
	mustSay(t, s, On, "", "", 8, 4)
	mustAsk(t, s, 2)
	s.Barred(true)
	mustNotAsk(t, s)
}

// newQuestion is a session, On, of which a question is to be asked, from 1 on, and more frames are due.
func newQuestion(t *testing.T, retry int) *Session {
	t.Helper()
	s := newOn(t, 0, biggest, retry)
	mustFresh(t, s, 0, 1, 1, 0)
	for i := 1; i < 40; i++ {
		mustFresh(t, s, i, 1, 1+i, int64(i))
	}
	mustSweep(t, s, life+1, "0:1:0", api.ByLife)
	mustAsk(t, s, 1)
	return s
}

// TestBarredDone: done, at the first time or later, none is to be asked.
func TestBarredDone(t *testing.T) {
	for _, retry := range []int{0, 1, 7, 15} {
		for vain := 0; vain <= retry; vain++ {
			s := newQuestion(t, retry)
			for range vain {
				s.Barred(false)
				mustAsk(t, s, 1)
			}
			s.Barred(true)
			mustNotAsk(t, s)
			mustStay(t, s, func() { s.Barred(true) })
			mustStay(t, s, func() { s.Barred(false) })
			// What was in vain ahead of that counts no more.
			mustSweep(t, s, life+2, "1:2:0", api.ByLife)
			mustVain(t, s, retry, 2)
		}
	}
}

// mustVain fails unless a question is asked in vain just retry and 1 times.
func mustVain(t *testing.T, s *Session, retry, from int) {
	t.Helper()
	for range retry + 1 {
		mustAsk(t, s, from)
		s.Barred(false)
	}
	mustNotAsk(t, s)
}

// TestBarredInVain: retry and 1 times; a question behind that counts anew.
func TestBarredInVain(t *testing.T) {
	for _, retry := range []int{0, 1, 2, 14, 15} {
		s := newQuestion(t, retry)
		for i := 1; i < 5; i++ {
			mustVain(t, s, retry, i)
			mustStay(t, s, func() { s.Barred(false) })
			mustSweep(t, s, int64(life+i+1), name(i, 1+i, 0), api.ByLife)
		}
	}
}

// TestBarredOfMore: one that is to be asked already is not counted anew.
func TestBarredOfMore(t *testing.T) {
	for _, retry := range []int{0, 1, 5, 15} {
		s := newQuestion(t, retry)
		for i := range retry + 1 {
			mustAsk(t, s, i+1)
			mustSweep(t, s, int64(life+i+2), name(i+1, i+2, 0), api.ByLife)
			mustAsk(t, s, i+2)
			s.Barred(false)
		}
		mustNotAsk(t, s)
		mustSay(t, s, On, names(retry+2, 38-retry, retry+3, 0), "", biggest-38+retry, retry+2)
	}
}

// TestBarredOfNone: where none is to be asked nothing is counted.
func TestBarredOfNone(t *testing.T) {
	s := newOn(t, 0, 4, 1)
	for range 5 {
		mustStay(t, s, func() { s.Barred(false) })
		mustStay(t, s, func() { s.Barred(true) })
	}
	mustFresh(t, s, 0, 1, 1, 0)
	mustSweep(t, s, life+1, "0:1:0", api.ByLife)
	mustVain(t, s, 1, 1)
	for range 5 {
		mustStay(t, s, func() { s.Barred(false) })
	}
	mustFresh(t, s, 1, 1, 2, 0)
	mustSweep(t, s, life+1, "1:2:0", api.ByLife)
	mustVain(t, s, 1, 2)
}

// TestQuestionAndFlight: what is out may go, be heard and be lost while a question is to be asked.
func TestQuestionAndFlight(t *testing.T) {
	s := newQuestion(t, retry)
	mustGo(t, s, 1, 2, 3)
	mustAsk(t, s, 1)
	mustLose(t, s)
	mustAsk(t, s, 1)
	mustGo(t, s, 1, 2, 3)
	s.Barred(true)
	mustHear(t, s, 2, 3, "2:3:2 3:4:2")
	mustNotAsk(t, s)
	mustFresh(t, s, 40, 5, 41, 0)
}

// All promises: round again and again.

// TestRound: a session that is sent over, thrice round, two lost of each window at the first time.
func TestRound(t *testing.T) {
	for _, size := range []int{1, 3, 16, 63, 64} {
		s := newOn(t, 4000, size, retry)
		first, id := 4000, 1
		for range 3*round/size + 1 {
			mustFresh(t, s, first, size, id, int64(id))
			var l []int
			for i := range size {
				l = append(l, (first+i)%round)
			}
			mustGo(t, s, l...)
			lost := uint64(1)<<(size/2) | 1
			l1, err := s.Heard(api.Ack{Seq: first, Map: ^lost})
			if len(l1) != size-min(2, size) && size > 1 || err != nil {
				t.Fatalf("from %d: %s, %v", first, short(t, l1), err)
			}
			again := []int{first, (first + size/2) % round}[:min(2, size)]
			want := strings.Join([]string{name(first, id, 2), name(first+size/2, id+size/2, 2)}[:min(2, size)], " ")
			mustGo(t, s, again...)
			mustHear(t, s, first, math.MaxUint64, want)
			first, id = (first+size)%round, id+size
			mustSay(t, s, On, "", "", size, first)
		}
	}
}

// TestSessions: sessions come and go, and the numbers go on.
func TestSessions(t *testing.T) {
	s := mustNew(t, 16, 0, life)
	n, id := 0, 1
	for i := range 2*round/9 + 2 {
		mustAskFor(t, s, i%256, n)
		mustAnswer(t, s, i%256, 0, 8)
		mustFresh(t, s, n, 8, id, 0)
		mustGo(t, s, (n+3)%round, (n+7)%round)
		mustHear(t, s, n, 1<<7, name(n+7, id+7, 1))
		mustSweep(t, s, 0, name(n+3, id+3, 1), api.ByRetry)
		mustSweep(t, s, life+1, names(n, 3, id, 0)+" "+names(n+4, 3, id+4, 0), 4, 4, 4, 4, 4, 4)
		n = (n + 8) % round
		mustAsk(t, s, n)
		mustEnd(t, s)
		mustFresh(t, s, n, 1, id+8, 0)
		mustNotFresh(t, s, api.ErrFull)
		mustGo(t, s, n)
		mustHear(t, s, n, 1, name(n, id+8, 1))
		n, id = (n+1)%round, id+9
	}
}

// P0.4: memory.

// TestBodies: what the caller does with what was handed in or out nobody shows.
func TestBodies(t *testing.T) {
	s := newOn(t, 0, 8, 0)
	mustFresh(t, s, 0, 8, 3, 0)
	lists := func(s *Session) [][]api.Mpdu {
		return [][]api.Mpdu{s.Due(), s.Due(), s.Flying(), s.Flying(), s.Out(), s.Out(), s.Clone().Out()}
	}
	mustGo(t, s, 1, 2, 4, 6)
	c := s.Clone()
	for _, x := range []*Session{s, c} {
		for i := range lists(x) {
			l := lists(x)
			write(l[i])
			l[i] = append(l[i], api.Mpdu{Seq: spoil})
			for j := range l {
				if j == i {
					continue
				}
				for _, m := range l[j] {
					if !bytes.Equal(m.Packet.Body, body(m.Packet.ID)) || m.Seq != m.Packet.ID-3 {
						t.Errorf("what was written into list %d is in list %d", i, j)
					}
				}
			}
		}
	}
	mustHear(t, s, 0, 1<<1|1<<4, "1:4:1 4:7:1")
	mustHear(t, c, 0, 1<<1|1<<4|1<<6, "1:4:1 4:7:1 6:9:1")
	mustSweep(t, s, 0, "2:5:1 6:9:1", api.ByRetry, api.ByRetry)
	mustSweep(t, c, life+1, "0:3:0 2:5:1 3:6:0 5:8:0 7:10:0", api.ByLife, api.ByRetry, api.ByLife, api.ByLife, api.ByLife)
	mustSay(t, s, On, "0:3:0 3:6:0 5:8:0 7:10:0", "", 0, 0)
}

// TestAnswersOfCopies: what one session hands out of those that it has no more, its copy does not show.
func TestAnswersOfCopies(t *testing.T) {
	for _, swept := range []bool{false, true} {
		s := newOn(t, 0, 4, 0)
		mustFresh(t, s, 0, 4, 3, 0)
		mustGo(t, s, 0, 1, 2, 3)
		if swept {
			mustLose(t, s)
		}
		c, d := s.Clone(), s.Clone()
		for _, x := range []*Session{s, c, d} {
			if swept {
				mustSweep(t, x, 0, names(0, 4, 3, 1), 3, 3, 3, 3)
			} else {
				mustHear(t, x, 0, 15, names(0, 4, 3, 1))
			}
		}
	}
}

// TestFreshIsNew: the frame that Fresh answers is not the one that is kept.
func TestFreshIsNew(t *testing.T) {
	s := mustNew(t, 4, retry, life)
	b := []byte{1, 2, 3}
	m, err := s.Fresh(api.Packet{ID: 5, Body: b}, 0)
	if err != nil || !bytes.Equal(m.Packet.Body, b) {
		t.Fatal(m, err)
	}
	b[0], m.Packet.Body[1] = 9, 9
	if !bytes.Equal(m.Packet.Body, []byte{1, 9, 3}) {
		t.Error("what Fresh answered shows what was handed in")
	}
	_ = append(m.Packet.Body, 9)
	if got := s.Out()[0].Packet.Body; !bytes.Equal(got, []byte{1, 2, 3}) {
		t.Error(got)
	}
}

// TestNoBody: nil and the empty Body are the same.
func TestNoBody(t *testing.T) {
	for _, b := range [][]byte{nil, {}, make([]byte, 0, 9)} {
		s := mustNew(t, 4, retry, life)
		if m, err := s.Fresh(api.Packet{ID: 5, Body: b}, 0); err != nil || len(m.Packet.Body) > 0 {
			t.Error(m, err)
		}
		mustGo(t, s, 0)
		if l, err := s.Heard(api.Ack{Map: 1}); err != nil || len(l) != 1 || len(l[0].Packet.Body) > 0 {
			t.Error(l, err)
		}
	}
}

// TestLongBodies: as long as a Body may be, and longer.
func TestLongBodies(t *testing.T) {
	for _, long := range []int{api.MaxBody, api.MaxBody + 1, 1 << 16} {
		s := mustNew(t, 4, retry, life)
		b := bytes.Repeat([]byte{7}, long)
		if m, err := s.Fresh(api.Packet{TID: -5, Body: b}, 0); err != nil || !bytes.Equal(m.Packet.Body, b) || m.Packet.TID != -5 {
			t.Error(long, err)
		}
		if l := s.Due(); len(l) != 1 || !bytes.Equal(l[0].Packet.Body, b) {
			t.Error(long)
		}
	}
}

// TestClone: a copy goes its own way, and so does the session that was copied.
func TestClone(t *testing.T) {
	s := newOn(t, 4094, 4, 1)
	mustFresh(t, s, 4094, 3, 1, 0)
	mustGo(t, s, 4095)
	c, d := s.Clone(), s.Clone()
	mustLose(t, s)
	mustGo(t, s, 4094, 4095, 0)
	mustSay(t, c, On, "4094:1:0 0:3:0", "4095:2:1", 1, 4094)
	mustHear(t, c, 4095, 1, "4095:2:1")
	mustFresh(t, c, 1, 1, 9, 0)
	mustSay(t, s, On, "", "4094:1:1 4095:2:2 0:3:1", 1, 4094)
	mustSweep(t, d, life+1, "4094:1:0 0:3:0", api.ByLife, api.ByLife)
	mustAsk(t, d, 4095)
	mustNotAsk(t, s)
	mustNotAsk(t, c)
	e := d.Clone()
	mustAsk(t, e, 4095)
	e.Barred(false)
	e.Barred(false)
	mustNotAsk(t, e)
	mustAsk(t, d, 4095)
	d.Barred(true)
	mustHear(t, d, 4095, 1, "4095:2:1")
	mustEnd(t, d)
	mustSay(t, e, On, "", "4095:2:1", 2, 4095)
	mustHear(t, s, 4094, 7, "4094:1:1 4095:2:2 0:3:1")
	mustSay(t, c, On, "4094:1:0 0:3:0 1:9:0", "", 0, 4094)
	mustSay(t, s, On, "", "", 4, 1)
	mustSay(t, d, Single, "", "", 1, 1)
	mustSay(t, e, On, "", "4095:2:1", 2, 4095)
}

// TestCloneOfStates: a copy is in the state, waits for the token, and is of the size, the retry and the life of what was
// copied; both change their own alone.
func TestCloneOfStates(t *testing.T) {
	s := mustNew(t, 5, 3, 77)
	c := s.Clone()
	mustAskFor(t, c, 200, 0)
	mustSay(t, s, Single, "", "", 1, 0)
	d := c.Clone()
	mustNotAnswer(t, d, 199, 0, 0, api.ErrState)
	mustAnswer(t, d, 200, 0, 0)
	mustSay(t, c, Asked, "", "", 1, 0)
	mustSay(t, d, On, "", "", 5, 0)
	e := d.Clone()
	mustEnd(t, e)
	mustSay(t, d, On, "", "", 5, 0)
	mustFresh(t, d, 0, 1, 1, 10)
	for range 3 {
		mustGo(t, d, 0)
		mustLose(t, d)
	}
	f := d.Clone()
	mustSweep(t, f, 87, "")
	g := f.Clone()
	mustSweep(t, g, 88, "0:1:3", api.ByLife)
	mustVain(t, g, 3, 1)
	mustGo(t, f, 0)
	mustLose(t, f)
	mustSweep(t, f, 87, "0:1:4", api.ByRetry)
}

// TestNoneTouchesAnother: one session tells nothing of another one.
func TestNoneTouchesAnother(t *testing.T) {
	v, w := newOn(t, 0, 4, retry), newOn(t, 0, 5, retry)
	mustFresh(t, v, 0, 4, 1, 0)
	mustSay(t, w, On, "", "", 5, 0)
	mustFresh(t, w, 0, 1, 9, 0)
	mustGo(t, v, 0, 1)
	mustSay(t, w, On, "0:9:0", "", 4, 0)
	mustSweep(t, v, life+1, "2:3:0 3:4:0", api.ByLife, api.ByLife)
	mustNotAsk(t, w)
	mustSay(t, w, On, "0:9:0", "", 4, 0)
}

// TestExample is the chapter's.
func TestExample(t *testing.T) {
	s := mustNew(t, biggest, retry, life)
	if s.State() != Single || s.Room() != 1 {
		t.Error(s.State(), s.Room())
	}
}

// All promises: against what the chapter words.

// entry is a frame of a rival.
type entry struct {
	n, id, sent int
	until       int64
	flies       bool
}

// rival is a session as the chapter words it: its numbers don't go round till they are told.
type rival struct {
	size, retry                int
	life                       int64
	state, token, window, next int
	out                        []entry
	// The question's number, and how often it may be in vain still.
	from, left int
	is         bool
}

func (r *rival) clone() *rival {
	c := *r
	c.out = slices.Clone(r.out)
	return &c
}

func (r *rival) start() int {
	first := r.next
	for _, e := range r.out {
		first = min(first, e.n)
	}
	return first
}

func (r *rival) room() int { return r.start() + r.window - r.next }

// flying tells how many fly.
func (r *rival) flying() int {
	n := 0
	for _, e := range r.out {
		if e.flies {
			n++
		}
	}
	return n
}

// say is what tell says of those that are so.
func (r *rival) say(so func(e entry) bool) string {
	var s []string
	for _, e := range r.out {
		if so(e) {
			s = append(s, name(e.n, e.id, e.sent)+":"+strconv.FormatInt(e.until, 10))
		}
	}
	return strings.Join(s, " ")
}

// drop takes those out that are so, and says them.
func (r *rival) drop(so func(e entry) bool) string {
	said := r.say(so)
	r.out = slices.DeleteFunc(r.out, so)
	return said
}

func (r *rival) ask(token int) (int, error) {
	if token < 0 || token >= 256 {
		return 0, api.ErrRange
	}
	if r.state != Single || len(r.out) > 0 {
		return 0, api.ErrState
	}
	r.state, r.token = Asked, token
	return r.next % round, nil
}

func (r *rival) answer(token, status, size int) error {
	if r.state != Asked || r.token != token {
		return api.ErrState
	}
	if status != 0 {
		r.state = Single
		return nil
	}
	if size < 0 || size >= 1024 {
		return api.ErrRange
	}
	r.state, r.window = On, r.size
	if size > 0 && size < r.size {
		r.window = size
	}
	return nil
}

func (r *rival) end() error {
	if r.state == Single || len(r.out) > 0 {
		return api.ErrState
	}
	r.state, r.window, r.is = Single, 1, false
	return nil
}

func (r *rival) fresh(id int, now int64) (string, error) {
	if r.state == Asked {
		return "", api.ErrState
	}
	if r.room() == 0 || r.is {
		return "", api.ErrFull
	}
	r.out = append(r.out, entry{n: r.next, id: id, until: now + r.life})
	r.next++
	return name(r.next-1, id, 0) + ":" + strconv.FormatInt(now+r.life, 10), nil
}

func (r *rival) went(seqs []int) error {
	named := map[int]bool{}
	for _, s := range seqs {
		if named[s] || !slices.ContainsFunc(r.out, func(e entry) bool { return e.n%round == s && !e.flies }) {
			return api.ErrNone
		}
		named[s] = true
	}
	if r.flying() > 0 {
		return api.ErrState
	}
	for i, e := range r.out {
		if named[e.n%round] {
			r.out[i].flies = true
			r.out[i].sent++
		}
	}
	return nil
}

func (r *rival) heard(a api.Ack) (string, error) {
	if r.flying() == 0 {
		return "", api.ErrState
	}
	// As far as an Ack tells, the numbers of its bits, each with what is told of it.
	bits := map[int]bool{}
	for k := range 64 {
		bits[(a.Seq%round+round+k)%round] = a.Map&(1<<k) != 0
	}
	told := func(e entry) bool {
		_, is := bits[e.n%round]
		return e.flies && is
	}
	if a.Seq < 0 || a.Seq > last || !slices.ContainsFunc(r.out, told) {
		return "", api.ErrSeq
	}
	said := r.drop(func(e entry) bool { return e.flies && bits[e.n%round] })
	r.land()
	return said, nil
}

func (r *rival) land() {
	for i := range r.out {
		r.out[i].flies = false
	}
}

func (r *rival) lost() error {
	if r.flying() == 0 {
		return api.ErrState
	}
	r.land()
	return nil
}

func (r *rival) sweep(now int64) (string, []int) {
	var why []int
	late := func(e entry) bool { return !e.flies && (e.sent > r.retry || e.until < now) }
	for _, e := range r.out {
		if late(e) && e.sent > r.retry {
			why = append(why, api.ByRetry)
		} else if late(e) {
			why = append(why, api.ByLife)
		}
	}
	said := r.drop(late)
	if len(why) > 0 && r.state == On {
		if !r.is {
			r.left = r.retry + 1
		}
		r.is, r.from = true, r.start()
	}
	return said, why
}

func (r *rival) bar() (int, bool) {
	if !r.is {
		return 0, false
	}
	return r.from % round, true
}

func (r *rival) barred(done bool) {
	r.left--
	if done || r.left <= 0 {
		r.is = false
	}
}

// pair is a session and its rival.
type pair struct {
	s *Session
	r *rival
}

func newPair(t *testing.T, size, retry int, life int64) pair {
	t.Helper()
	return pair{mustNew(t, size, retry, life), &rival{size: size, retry: retry, life: life, state: Single, window: 1}}
}

func (p pair) clone() pair { return pair{p.s.Clone(), p.r.clone()} }

// look fails unless both tell the same of themselves.
func (p pair) look(t *testing.T) {
	t.Helper()
	due := p.r.say(func(e entry) bool { return !e.flies })
	flying := p.r.say(func(e entry) bool { return e.flies })
	out := p.r.say(func(e entry) bool { return true })
	from, is := p.r.bar()
	want := strings.Join([]string{
		strconv.Itoa(p.r.state), due, flying, out, strconv.Itoa(p.r.room()),
		strconv.Itoa(p.r.start() % round), strconv.Itoa(from), strconv.FormatBool(is),
	}, "|")
	if got := say(t, p.s); got != want {
		t.Fatalf("%s, want %s", got, want)
	}
}

// same fails unless both answered the same, and look alike.
func (p pair) same(t *testing.T, call, got, want string, err, wantErr error) bool {
	t.Helper()
	if got != want || err != wantErr {
		t.Fatalf("%s = %s, %v, want %s, %v", call, got, err, want, wantErr)
	}
	p.look(t)
	return err == nil
}

func (p pair) ask(t *testing.T, token int) bool {
	t.Helper()
	n, err := p.s.Ask(token)
	want, wantErr := p.r.ask(token)
	return p.same(t, "Ask", strconv.Itoa(n), strconv.Itoa(want), err, wantErr)
}

func (p pair) answer(t *testing.T, token, status, size int) bool {
	t.Helper()
	return p.same(t, "Answer", "", "", p.s.Answer(token, status, size), p.r.answer(token, status, size))
}

func (p pair) end(t *testing.T) bool {
	t.Helper()
	return p.same(t, "End", "", "", p.s.End(), p.r.end())
}

func (p pair) fresh(t *testing.T, id int, now int64) bool {
	t.Helper()
	m, err := hand(t, p.s, id, now)
	got := ""
	if err == nil {
		got = tell(t, []api.Mpdu{m})
	}
	want, wantErr := p.r.fresh(id, now)
	return p.same(t, "Fresh", got, want, err, wantErr)
}

func (p pair) went(t *testing.T, seqs []int) bool {
	t.Helper()
	return p.same(t, "Went", "", "", p.s.Went(seqs...), p.r.went(seqs))
}

func (p pair) heard(t *testing.T, a api.Ack) bool {
	t.Helper()
	l, err := p.s.Heard(a)
	want, wantErr := p.r.heard(a)
	return p.same(t, "Heard", tell(t, l), want, err, wantErr)
}

func (p pair) lost(t *testing.T) bool {
	t.Helper()
	return p.same(t, "Lost", "", "", p.s.Lost(), p.r.lost())
}

func (p pair) sweep(t *testing.T, now int64) bool {
	t.Helper()
	l, why := p.s.Sweep(now)
	want, wantWhy := p.r.sweep(now)
	if !slices.Equal(why, wantWhy) {
		t.Fatalf("Sweep tells %v, want %v", why, wantWhy)
	}
	clear(why[:cap(why)])
	return p.same(t, "Sweep", tell(t, l), want, nil, nil) && want != ""
}

func (p pair) barred(t *testing.T, done bool) {
	t.Helper()
	p.s.Barred(done)
	p.r.barred(done)
	p.look(t)
}

// dice answer numbers by a rule that comes by everywhere.
type dice uint64

func (d *dice) bits() uint64 {
	*d += 0x9e3779b97f4a7c15
	x := uint64(*d)
	x = (x ^ x>>30) * 0xbf58476d1ce4e5b9
	x = (x ^ x>>27) * 0x94d049bb133111eb
	return x ^ x>>31
}

func (d *dice) below(n int) int { return int(d.bits() % uint64(n)) }

// one tells whether what is met once in n times is.
func (d *dice) one(n int) bool { return d.below(n) == 0 }

// met is how often random courses met what they are to meet.
type met struct{ on, ended, fresh, full, went, notWent, heard, notHeard, lost, swept, vain, moved int }

// course is a pair, with the time that it has, and the packets that it had.
type course struct {
	pair
	d   *dice
	m   *met
	now int64
	id  int
	// From time to time nothing comes in, till all is out, and a session may end.
	dry bool
}

// seqs are numbers to go: mostly some that are due, now and then with one that is not.
func (c *course) seqs() []int {
	var l []int
	for _, e := range c.r.out {
		if !e.flies && !c.d.one(4) {
			l = append(l, e.n%round)
		}
	}
	for i := range l {
		j := c.d.below(len(l))
		l[i], l[j] = l[j], l[i]
	}
	if c.d.one(8) {
		l = append(l, (c.r.start()+c.d.below(70))%round)
	}
	if c.d.one(20) {
		l = append(l, c.r.start()+c.d.below(4*round)-2*round)
	}
	return l
}

// ack is one to be heard: mostly of about where the window is.
func (c *course) ack() api.Ack {
	a := api.Ack{Seq: c.r.start() % round, Map: c.d.bits() | c.d.bits()}
	if c.d.one(4) {
		a.Seq = (c.r.start() + c.d.below(200) - 100 + round) % round
	}
	if c.d.one(10) {
		a.Seq = c.d.below(3*round) - round
	}
	if c.d.one(5) {
		a.Map = 0
	}
	return a
}

// step goes on at random.
func (c *course) step(t *testing.T) {
	if c.d.one(10) {
		c.now += int64(c.d.below(int(min(c.r.life, 1<<20)) + 2))
	}
	if c.d.one(60) {
		c.dry = !c.dry
	}
	n := c.d.below(100)
	switch {
	case n < 14:
		c.manage(t, n)
	case n < 45 && (!c.dry || c.d.one(20)):
		c.id++
		if c.fresh(t, c.id, c.now) {
			c.m.fresh++
		} else {
			c.m.full++
		}
	case n < 60:
		if c.went(t, c.seqs()) {
			c.m.went++
		} else {
			c.m.notWent++
		}
	case n < 78:
		if c.heard(t, c.ack()) {
			c.m.heard++
		} else {
			c.m.notHeard++
		}
	case n < 82:
		if c.lost(t) {
			c.m.lost++
		}
	case n < 92:
		if c.sweep(t, c.now) {
			c.m.swept++
		}
	default:
		c.question(t)
	}
	if from, is := c.r.bar(); is && from != c.r.start()%round {
		c.m.moved++
	}
}

// manage asks for a session, has it answered, or ends it.
func (c *course) manage(t *testing.T, n int) {
	token := c.r.token
	if c.d.one(5) {
		token = c.d.below(260) - 2
	}
	switch {
	case n < 5:
		c.ask(t, c.d.below(260)-2)
	case n < 10:
		status, size := 0, c.d.below(80)-2
		if c.d.one(6) {
			status = c.d.below(7) - 3
		}
		if c.d.one(6) {
			size = c.d.below(2000) - 500
		}
		if c.answer(t, token, status, size) && status == 0 {
			c.m.on++
		}
	case c.end(t):
		c.m.ended++
	}
}

// question has a question asked, mostly in vain.
func (c *course) question(t *testing.T) {
	done := c.d.one(6)
	_, was := c.r.bar()
	c.barred(t, done)
	if _, is := c.r.bar(); was && !is && !done {
		c.m.vain++
	}
}

// TestModel has random courses; copies go on by themselves.
func TestModel(t *testing.T) {
	var m met
	sizes := []int{1, 2, 3, 8, 16, 63, 64}
	retries := []int{0, 1, 2, 5, 15}
	lives := []int64{1, 50, 1000, 1 << 20, longest}
	for i := range 70 {
		d := dice(i)
		c := &course{newPair(t, sizes[i%7], retries[i%5], lives[i/7%5]), &d, &m, int64(d.below(1 << 20)), 0, false}
		for range 2000 {
			c.step(t)
			if !d.one(100) {
				continue
			}
			// The one of the two that is left alone is not what it was, if the other one touches it.
			alone, other := c.pair, c.clone()
			if d.one(2) {
				alone, other = other, alone
			}
			o := &course{other, &d, &m, c.now, c.id, !c.dry}
			for range 20 {
				o.step(t)
			}
			alone.look(t)
			c.pair = alone
		}
	}
	if m.on < 500 || m.ended < 1000 || m.fresh < 5000 || m.full < 10000 || m.went < 10000 || m.notWent < 1000 || m.heard < 3000 || m.notHeard < 3000 || m.lost < 300 || m.swept < 1000 || m.vain < 100 || m.moved < 1000 {
		t.Errorf("%+v", m)
	}
}

// FuzzSession holds a session against its rival, at what two bytes each say.
func FuzzSession(f *testing.F) {
	f.Add(8, 2, int64(1000), []byte{0, 7, 1, 0, 3, 0, 3, 0, 4, 3, 5, 1, 7, 9, 8, 0})
	f.Add(64, 0, int64(1), slices.Repeat([]byte{0, 7, 1, 0, 3, 0, 3, 0, 3, 0, 4, 7, 6, 0, 7, 1, 8, 1, 2, 0}, 20))
	f.Add(1, 15, int64(longest), slices.Repeat([]byte{3, 0, 4, 1, 5, 255}, 50))
	f.Add(0, 0, int64(1), []byte{0, 0})
	f.Add(64, 16, int64(1), []byte{0, 0})
	f.Fuzz(func(t *testing.T, size, retry int, life int64, calls []byte) {
		s, err := New(size, retry, life)
		may := size >= 1 && size <= biggest && retry >= 0 && retry <= tries && life >= 1 && life <= longest
		if may != (err == nil) || may != (s != nil) {
			t.Fatalf("New(%d, %d, %d) = %v, %v", size, retry, life, s, err)
		} else if !may {
			return
		}
		p := newPair(t, size, retry, life)
		var left []pair
		now := int64(0)
		for i := 0; i+1 < len(calls); i += 2 {
			n := int(calls[i+1])
			switch calls[i] % 11 {
			case 0:
				p.ask(t, n)
			case 1:
				p.answer(t, p.r.token+n>>6, n>>4&1, n&15)
			case 2:
				p.end(t)
			case 3:
				p.fresh(t, i, now)
			case 4:
				var l []int
				for k, e := range p.r.out {
					if n>>(k%8)&1 == 1 {
						l = append(l, e.n%round)
					}
				}
				p.went(t, l)
			case 5:
				p.heard(t, api.Ack{Seq: (p.r.start() + int(calls[i])/11*7) % round, Map: uint64(n) * 0x0101010101010101})
			case 6:
				p.lost(t)
			case 7:
				now += int64(n) * int64(n)
				p.sweep(t, now)
			case 8:
				p.barred(t, n&1 == 1)
			case 9:
				left = append(left, p)
				p = p.clone()
			case 10:
				p.went(t, []int{(p.r.start() + n) % round})
			}
		}
		for _, p := range left {
			p.look(t)
		}
	})
}
