package pool

import (
	"bytes"
	"math"
	"slices"
	"strconv"
	"strings"
	"testing"

	"muezzin/api"
	"muezzin/fq"
	"muezzin/hash"
)

// What a pool is made of where a test names nothing else.
const (
	seed     = 9
	target   = 100
	interval = 1000
)

// flows are two flows of each bucket, of that seed.
var flows = [api.Buckets][2]uint32{
	{9, 22}, {13, 30}, {12, 26}, {1, 14}, {3, 16}, {10, 35}, {21, 96}, {7, 8},
	{11, 15}, {41, 45}, {23, 28}, {0, 32}, {2, 5}, {6, 18}, {4, 25}, {24, 40},
}

// spoil stands where nobody is to write, or is to have read.
const spoil = 0xee

// place is a flow: where a packet is.
type place struct{ aid, tid, bucket int }

// nowhere are stations and identifiers of which one at least is none.
var nowhere = [][2]int{
	{0, 0}, {17, 0}, {-1, 0}, {0, 7}, {17, 7}, {18, 3}, {math.MinInt, 0}, {math.MaxInt, 0}, {math.MinInt + 1, 1}, {-16, 2}, {257, 0},
	{1, -1}, {1, 8}, {16, -1}, {16, 8}, {2, -8}, {2, 16}, {3, math.MinInt}, {3, math.MaxInt}, {5, 256}, {5, -256},
	{0, -1}, {0, 8}, {17, -1}, {17, 8}, {-1, -1}, {math.MinInt, math.MaxInt},
}

// body is the bytes of a packet of that number.
func body(id, long int) []byte {
	b := make([]byte, long)
	for i := range b {
		b[i] = byte(id + 3*i)
	}
	return b
}

// packet is a packet for a place: by its number of the one or of the other flow.
func packet(id int, at place, long int) api.Packet {
	return api.Packet{ID: id, Flow: flows[at.bucket][id&1], TID: at.tid, At: 0, Body: body(id, long)}
}

// same tells whether two packets are alike; nil and the empty Body are.
func same(a, b api.Packet) bool {
	return a.ID == b.ID && a.Flow == b.Flow && a.TID == b.TID && a.At == b.At && bytes.Equal(a.Body, b.Body)
}

// nothing tells whether each field has its zero value.
func nothing(x api.Packet) bool { return same(x, api.Packet{}) }

// write writes into all memory of a Body that was handed out.
func write(x api.Packet) {
	memory := x.Body[:cap(x.Body)]
	for i := range memory {
		memory[i] = spoil
	}
}

// told is a packet that was handed out: its Body is asked ahead, and is written over.
func told(t *testing.T, x api.Packet) string {
	t.Helper()
	if !bytes.Equal(x.Body, body(x.ID, len(x.Body))) {
		t.Errorf("%d is handed out as %+v", x.ID, x)
	}
	if bytes.IndexByte(x.Body[len(x.Body):cap(x.Body)], spoil) >= 0 {
		t.Errorf("%d is handed out with what lay behind the Body that was put", x.ID)
	}
	write(x)
	return strconv.Itoa(x.ID)
}

// tell is a list that was handed out, all of which, and what is behind it, is written over.
func tell(t *testing.T, l []api.Packet) string {
	t.Helper()
	var s []string
	for _, x := range l {
		s = append(s, told(t, x))
	}
	clear(l[:cap(l)])
	return strings.Join(s, " ")
}

// mustNew is a pool of so many packets and bytes.
func mustNew(t *testing.T, packets, bytes int) *Pool {
	t.Helper()
	p, err := New(seed, target, interval, packets, bytes)
	if err != nil || p == nil {
		t.Fatalf("New(%d, %d): %v", packets, bytes, err)
	}
	return p
}

// hand puts x, whose memory has more behind it, and writes into all of that afterwards.
func hand(t *testing.T, p *Pool, aid int, x api.Packet) ([]api.Packet, error) {
	t.Helper()
	was := bytes.Clone(x.Body)
	memory := append(bytes.Clone(x.Body), spoil, spoil, spoil)
	x.Body = memory[:len(was)]
	l, err := p.Put(aid, x)
	if !bytes.Equal(memory, append(was, spoil, spoil, spoil)) {
		t.Errorf("Put of %d wrote into its Body", x.ID)
	}
	write(x)
	return l, err
}

// mustPut fails unless a Put, of packet id of so many bytes, drops these.
func mustPut(t *testing.T, p *Pool, id int, at place, long int, want string) {
	t.Helper()
	l, err := hand(t, p, at.aid, packet(id, at, long))
	if got := tell(t, l); err != nil || got != want {
		t.Errorf("Put of %d dropped %q, %v, want %q", id, got, err, want)
	}
}

// put puts packets of a place, each of them so long, numbered from id on, for which none is dropped.
func put(t *testing.T, p *Pool, id int, at place, longs ...int) {
	t.Helper()
	for i, long := range longs {
		mustPut(t, p, id+i, at, long, "")
	}
}

// mustTake fails unless Takes at one time answer what is wanted, one behind the other: what is dropped with a sign
// ahead, then what is taken; or a point.
func mustTake(t *testing.T, p *Pool, aid, tid int, now int64, wants ...string) {
	t.Helper()
	for i, want := range wants {
		x, dropped, is := p.Take(aid, tid, now)
		var s []string
		for _, d := range dropped {
			s = append(s, "-"+told(t, d))
		}
		clear(dropped[:cap(dropped)])
		if is {
			s = append(s, told(t, x))
		} else {
			s = append(s, ".")
		}
		if !is && !nothing(x) || is && x.TID != tid {
			t.Errorf("Take %d of %d, %d = %+v, %v", i+1, aid, tid, x, is)
		}
		if got := strings.Join(s, " "); got != want {
			t.Errorf("Take %d of %d, %d at %d = %s, want %s", i+1, aid, tid, now, got, want)
		}
	}
}

// mustDrop fails unless Drop tells these.
func mustDrop(t *testing.T, p *Pool, aid int, want string) {
	t.Helper()
	if got := tell(t, p.Drop(aid)); got != want {
		t.Errorf("Drop(%d) = %q, want %q", aid, got, want)
	}
}

// mustHave fails unless just these queues have something.
func mustHave(t *testing.T, p *Pool, queues ...[2]int) {
	t.Helper()
	for aid := -2; aid <= api.MaxSta+2; aid++ {
		for tid := -2; tid <= api.TIDs+2; tid++ {
			want := slices.Contains(queues, [2]int{aid, tid})
			if p.Has(aid, tid) != want {
				t.Errorf("Has(%d, %d) = %v", aid, tid, !want)
			}
		}
	}
	for _, x := range nowhere {
		if p.Has(x[0], x[1]) {
			t.Errorf("Has%v", x)
		}
	}
}

// mustHold fails unless just these packets are there, of so many bytes: a copy's, by station, as Drop tells them.
func mustHold(t *testing.T, p *Pool, long int, want string) {
	t.Helper()
	var all []string
	var queues [][2]int
	c, n := p.Clone(), 0
	for aid := range api.MaxSta + 1 {
		for _, x := range c.Drop(aid) {
			n++
			all = append(all, told(t, x))
			queues = append(queues, [2]int{aid, x.TID})
		}
	}
	if got := strings.Join(all, " "); got != want || p.Len() != n || p.Bytes() != long {
		t.Errorf("%q, %d, %d bytes, want %q, %d bytes", got, p.Len(), p.Bytes(), want, long)
	}
	mustHave(t, p, queues...)
	if c.Len() != 0 || c.Bytes() != 0 {
		t.Errorf("behind all Drops: %d, %d bytes", c.Len(), c.Bytes())
	}
}

// mustBeEmpty fails unless nothing is there.
func mustBeEmpty(t *testing.T, p *Pool) {
	t.Helper()
	mustHold(t, p, 0, "")
	for aid := range api.MaxSta + 2 {
		mustDrop(t, p, aid, "")
		for tid := -1; tid <= api.TIDs; tid++ {
			mustTake(t, p, aid, tid, 0, ".")
		}
	}
	mustHold(t, p, 0, "")
}

// P14.1: New.

func TestNew(t *testing.T) {
	for packets, is := range map[int]bool{
		math.MinInt: false, -513: false, -512: false, -1: false, 0: false, 1: true, 2: true, 511: true, 512: true, 513: false, 1 << 20: false, math.MaxInt: false,
	} {
		for bytes, also := range map[int]bool{
			math.MinInt: false, -1 << 20: false, -1: false, 0: false, 1: true, 2: true, 513: true, 1<<20 - 1: true, 1 << 20: true, 1<<20 + 1: false, math.MaxInt: false,
		} {
			p, err := New(seed, target, interval, packets, bytes)
			if is && also && (p == nil || err != nil) || !(is && also) && (p != nil || err != api.ErrRange) {
				t.Errorf("New(%d, %d) = %v, %v", packets, bytes, p, err)
			}
		}
	}
}

// TestNewIsEmpty: whatever its seed, its target and its interval are.
func TestNewIsEmpty(t *testing.T) {
	for _, x := range []struct {
		seed             uint32
		target, interval int64
	}{{0, 0, 0}, {seed, target, interval}, {math.MaxUint32, math.MaxInt64, math.MaxInt64}, {1, math.MinInt64, -1}} {
		p, err := New(x.seed, x.target, x.interval, 3, 10)
		if err != nil {
			t.Fatal(err)
		}
		mustBeEmpty(t, p)
		mustBeEmpty(t, p.Clone())
	}
}

// TestSeed: which flows are one bucket is what the seed says: of one bucket they are dropped together.
func TestSeed(t *testing.T) {
	for _, s := range []uint32{0, 1, 9, 1 << 31, math.MaxUint32} {
		for flow := range uint32(60) {
			p, err := New(s, target, interval, 3, 100)
			if err != nil {
				t.Fatal(err)
			}
			// 30 bytes and 10 more are the fattest flow, if both are of one bucket; else the 35 are.
			q, want := fq.New(s, target, interval), 2
			if q.Put(api.Packet{Flow: 0}) == q.Put(api.Packet{Flow: flow}) {
				want = 1
			}
			p.Put(1, api.Packet{ID: 1, Flow: 0, Body: body(1, 30)})
			p.Put(2, api.Packet{ID: 2, Flow: 0, Body: body(2, 35)})
			p.Put(1, api.Packet{ID: 3, Flow: flow, Body: body(3, 10)})
			if l, err := p.Put(3, api.Packet{ID: 4, Flow: flow}); err != nil || len(l) != 1 || l[0].ID != want {
				t.Errorf("seed %d, flow %d: %+v, %v, want %d", s, flow, l, err, want)
			}
		}
	}
}

// TestTimes: target and interval are those of each queue's CoDel, cut as it cuts them.
func TestTimes(t *testing.T) {
	for _, x := range []struct {
		target, interval, first, second int64
	}{{100, 1000, 100, 1100}, {0, 1, 0, 1}, {7, 0, 7, 7}, {-5, 5, 0, 5}, {5, -5, 5, 5}, {1 << 50, 1 << 50, 1 << 30, 1 << 31}} {
		p, err := New(seed, x.target, x.interval, 512, 1<<20)
		if err != nil {
			t.Fatal(err)
		}
		for _, at := range []place{{1, 0, 3}, {16, 7, 0}} {
			put(t, p, 1, at, slices.Repeat([]int{1000}, 9)...)
			if x.first > 0 {
				mustTake(t, p, at.aid, at.tid, x.first-1, "1")
			} else {
				put(t, p, 10, at, 1000)
			}
			c := p.Clone()
			l, _, _ := c.Take(at.aid, at.tid, x.first)
			if _, d, is := c.Take(at.aid, at.tid, x.second); !is || len(d) != 1 || d[0].ID != l.ID+1 {
				t.Errorf("%+v: dropped %v", x, d)
			}
			if x.second > x.first {
				c = p.Clone()
				c.Take(at.aid, at.tid, x.first)
				if _, d, is := c.Take(at.aid, at.tid, x.second-1); !is || len(d) > 0 {
					t.Errorf("%+v: dropped %v too early", x, d)
				}
			}
		}
	}
}

// P14.1: Put.

// TestPutOfNone: a Put for a station, or of an identifier, that is none is refused, and leaves the pool as it was.
func TestPutOfNone(t *testing.T) {
	p := mustNew(t, 4, 1000)
	alone := mustNew(t, 4, 1000)
	refuse := func() {
		t.Helper()
		for _, x := range nowhere {
			for _, long := range []int{0, 1, 2000} {
				l, err := hand(t, p, x[0], packet(99, place{x[0], x[1], 3}, long))
				if len(l) > 0 || err != api.ErrRange {
					t.Errorf("Put(%v) = %v, %v", x, l, err)
				}
			}
		}
	}
	refuse()
	mustBeEmpty(t, p)
	for _, q := range []*Pool{p, alone} {
		put(t, q, 1, place{1, 0, 3}, 300, 100)
		put(t, q, 3, place{1, 0, 7}, 200)
		put(t, q, 4, place{16, 7, 15}, 400)
	}
	refuse()
	mustHold(t, p, 1000, "1 2 3 4")
	for _, q := range []*Pool{p, alone} {
		mustPut(t, q, 5, place{3, 2, 0}, 0, "1")
		refuse()
		mustTake(t, q, 1, 0, 50, "2")
		refuse()
		mustPut(t, q, 6, place{1, 0, 7}, 700, "3 6")
		refuse()
		mustTake(t, q, 1, 0, 50, ".")
	}
	mustHold(t, p, 400, "5 4")
	mustHold(t, alone, 400, "5 4")
}

// TestEachQueue: each station has a queue of each identifier, of its own.
func TestEachQueue(t *testing.T) {
	p := mustNew(t, 512, 1<<20)
	for aid := 1; aid <= api.MaxSta; aid++ {
		for tid := range api.TIDs {
			mustHave(t, p)
			put(t, p, 1, place{aid, tid, 3}, 10, 20)
			mustHave(t, p, [2]int{aid, tid})
			for other := -1; other <= api.MaxSta+1; other++ {
				for id := -1; id <= api.TIDs; id++ {
					if other != aid || id != tid {
						mustTake(t, p, other, id, 0, ".")
					}
				}
				if other != aid {
					mustDrop(t, p, other, "")
				}
			}
			mustTake(t, p, aid, tid, 0, "1")
			mustHave(t, p, [2]int{aid, tid})
			if tid%2 == 0 {
				mustTake(t, p, aid, tid, 0, "2", ".")
			} else {
				mustDrop(t, p, aid, "2")
			}
		}
	}
	mustBeEmpty(t, p)
}

// TestAllQueues has something in all of them at once, by each of three ways out.
func TestAllQueues(t *testing.T) {
	p := mustNew(t, 512, 1<<20)
	var all [][2]int
	for aid := api.MaxSta; aid >= 1; aid-- {
		for tid := api.TIDs - 1; tid >= 0; tid-- {
			id := 20*aid + 2*tid
			put(t, p, id, place{aid, tid, tid}, 5, 6)
			all = append(all, [2]int{aid, tid})
		}
	}
	mustHave(t, p, all...)
	if p.Len() != 256 || p.Bytes() != 128*11 {
		t.Errorf("%d, %d bytes", p.Len(), p.Bytes())
	}
	c := p.Clone()
	for aid := 1; aid <= api.MaxSta; aid++ {
		var want []string
		for tid := range api.TIDs {
			id := 20*aid + 2*tid
			mustTake(t, p, aid, tid, 0, strconv.Itoa(id), strconv.Itoa(id+1), ".")
			want = append(want, strconv.Itoa(id), strconv.Itoa(id+1))
		}
		mustDrop(t, c, aid, strings.Join(want, " "))
		if left := 256 - 16*aid; p.Len() != left || c.Len() != left {
			t.Errorf("%d, of the copy %d, want %d", p.Len(), c.Len(), left)
		}
	}
	mustBeEmpty(t, p)
	mustBeEmpty(t, c)
}

// TestPacketsStay: what comes out is what came in, whatever it is.
func TestPacketsStay(t *testing.T) {
	for _, x := range []api.Packet{
		{ID: 1, Flow: 3, TID: 7, At: 5, Body: []byte("body")},
		{ID: -1, Flow: 1, TID: 0, At: -1},
		{ID: math.MaxInt, Flow: 7, TID: 3, At: math.MaxInt64, Body: []byte{}},
		{ID: math.MinInt, Flow: math.MaxUint32, TID: 6, At: math.MinInt64, Body: make([]byte, 5000)},
		{},
	} {
		for i, way := range []func(*Pool) (api.Packet, bool){
			func(p *Pool) (api.Packet, bool) { x, _, is := p.Take(5, x.TID, 5); return x, is },
			func(p *Pool) (api.Packet, bool) { l := p.Drop(5); return l[0], len(l) == 1 },
			func(p *Pool) (api.Packet, bool) { l := p.Clone().Drop(5); return l[0], len(l) == 1 },
			func(p *Pool) (api.Packet, bool) {
				p.Put(6, api.Packet{})
				l, _ := p.Put(6, api.Packet{})
				return l[0], len(l) == 1
			},
		} {
			p := mustNew(t, 2, 5000)
			if l, err := p.Put(5, x); len(l) > 0 || err != nil {
				t.Fatal(l, err)
			}
			if got, is := way(p); !is || !same(got, x) {
				t.Errorf("way %d: %+v, %v, want %+v", i, got, is, x)
			}
		}
	}
}

// P14.1 and P14.2: what is dropped.

// TestFullByPackets: as many as may be stay, and of one further the first of the fattest flow goes.
func TestFullByPackets(t *testing.T) {
	for _, n := range []int{1, 2, 3, 17, 511, 512} {
		p := mustNew(t, n, 1<<20)
		for i := range n {
			mustPut(t, p, i+1, place{i%16 + 1, i % 8, i % 16}, 5, "")
		}
		if p.Len() != n || p.Bytes() != 5*n {
			t.Errorf("%d: %d, %d bytes", n, p.Len(), p.Bytes())
		}
		// Another one of as many bytes as all have is behind the others.
		mustPut(t, p, n+1, place{16, 7, 0}, n*5+1, strconv.Itoa(n+1))
		if p.Len() != n || p.Bytes() != 5*n {
			t.Errorf("%d: %d, %d bytes behind one further", n, p.Len(), p.Bytes())
		}
		mustPut(t, p, n+2, place{16, 7, 0}, 0, "1")
		if p.Len() != n || p.Bytes() != 5*n-5 {
			t.Errorf("%d: %d, %d bytes behind two further", n, p.Len(), p.Bytes())
		}
	}
}

// TestFullByBytes: as many bytes as may be stay, and of one further the first of the fattest flow goes.
func TestFullByBytes(t *testing.T) {
	for _, n := range []int{1, 2, 3, 100, 1500, 1<<20 - 1, 1 << 20} {
		p := mustNew(t, 512, n)
		mustPut(t, p, 1, place{9, 4, 3}, n, "")
		mustPut(t, p, 2, place{1, 4, 3}, 0, "")
		mustHold(t, p, n, "2 1")
		mustPut(t, p, 3, place{16, 5, 3}, 1, "1")
		mustHold(t, p, 1, "2 3")
		mustPut(t, p, 4, place{9, 4, 3}, n-1, "")
		mustHold(t, p, n, "2 4 3")
		if n > 2 {
			mustPut(t, p, 5, place{9, 4, 3}, 0, "")
			mustPut(t, p, 6, place{8, 4, 3}, 1, "4")
			mustHold(t, p, 2, "2 6 5 3")
		}
		p = mustNew(t, 512, n)
		mustPut(t, p, 1, place{9, 4, 3}, n+1, "1")
		mustBeEmpty(t, p)
	}
}

// TestFullByBoth: as many packets and as many bytes as may be stay.
func TestFullByBoth(t *testing.T) {
	p := mustNew(t, 3, 60)
	put(t, p, 1, place{2, 0, 3}, 30)
	put(t, p, 2, place{3, 0, 3}, 20)
	put(t, p, 3, place{4, 0, 3}, 10)
	mustHold(t, p, 60, "1 2 3")
	c, d := p.Clone(), p.Clone()
	// One packet further, of no bytes; one byte further, where there is room for a packet; both.
	mustPut(t, p, 4, place{5, 0, 3}, 0, "1")
	mustHold(t, p, 30, "2 3 4")
	mustTake(t, c, 4, 0, 0, "3")
	mustPut(t, c, 4, place{5, 0, 3}, 11, "1")
	mustHold(t, c, 31, "2 4")
	mustPut(t, d, 4, place{5, 0, 3}, 25, "1")
	mustHold(t, d, 55, "2 3 4")
	mustPut(t, d, 5, place{6, 0, 3}, 24, "4")
	mustHold(t, d, 54, "2 3 5")
	mustPut(t, d, 6, place{7, 0, 3}, 5, "5")
	mustPut(t, d, 7, place{7, 0, 3}, 50, "6 7")
	mustHold(t, d, 30, "2 3")
	// As many as may be of both, again.
	put(t, d, 8, place{7, 0, 3}, 30)
	mustHold(t, d, 60, "2 3 8")
}

// TestDropsSeveral: it goes on till there is no more than may be, each time with the flow that is the fattest then.
func TestDropsSeveral(t *testing.T) {
	p := mustNew(t, 512, 200)
	put(t, p, 1, place{4, 1, 3}, 30, 25, 15)
	put(t, p, 4, place{2, 6, 7}, 20, 30, 10)
	put(t, p, 7, place{9, 0, 0}, 5, 5, 40, 5)
	mustHold(t, p, 185, "4 5 6 1 2 3 7 8 9 10")
	mustPut(t, p, 11, place{1, 0, 15}, 45, "1")
	mustHold(t, p, 200, "11 4 5 6 2 3 7 8 9 10")
	// The flows are of 45, 60, 40, 55 and 40 then: of 60 goes 20, of 55 go 5 and 5; of 45 and 45 the first.
	mustPut(t, p, 12, place{16, 7, 15}, 40, "4 7 8 11")
	mustHold(t, p, 165, "5 6 2 3 9 10 12")
	// What was put, as the last of several.
	mustPut(t, p, 13, place{9, 0, 0}, 100, "9 10 13")
	mustHold(t, p, 120, "5 6 2 3 12")
	// As one between others: of 60 each first 30 at the least station, then what was put, then the next 30.
	q := mustNew(t, 512, 100)
	put(t, q, 1, place{1, 0, 3}, 30, 30)
	put(t, q, 3, place{3, 0, 3}, 10, 30)
	mustPut(t, q, 5, place{2, 0, 3}, 59, "1 5")
	mustHold(t, q, 70, "2 3 4")
	mustPut(t, q, 6, place{2, 0, 3}, 35, "3")
	mustPut(t, q, 7, place{2, 0, 3}, 30, "6")
	mustHold(t, q, 90, "2 7 4")
	// Of packets one at most is too many, and bytes may be too many still.
	r := mustNew(t, 4, 100)
	put(t, r, 1, place{5, 5, 5}, 0, 10, 20, 60)
	mustPut(t, r, 5, place{1, 5, 5}, 15, "1 2")
	mustHold(t, r, 95, "5 3 4")
	put(t, r, 6, place{1, 5, 5}, 5)
	mustPut(t, r, 7, place{1, 5, 5}, 0, "3")
	mustPut(t, r, 8, place{1, 5, 5}, 61, "5 6 7 8")
	mustHold(t, r, 60, "4")
}

// TestDropsWhatWasPut: it is dropped if it is the first of the fattest flow, alone in it or not.
func TestDropsWhatWasPut(t *testing.T) {
	for _, at := range []place{{1, 0, 0}, {7, 3, 3}, {16, 7, 15}} {
		p := mustNew(t, 1, 100)
		mustPut(t, p, 1, place{7, 3, 4}, 5, "")
		mustPut(t, p, 2, at, 6, "2")
		mustHold(t, p, 5, "1")
		mustPut(t, p, 3, at, 101, "3")
		mustHold(t, p, 5, "1")
		mustPut(t, p, 4, at, 4, "1")
		mustHold(t, p, 4, "4")
		// Behind one of its own flow that one goes, however long both are.
		mustPut(t, p, 5, at, 100, "4")
		mustHold(t, p, 100, "5")
		mustPut(t, p, 6, at, 0, "5")
		mustHold(t, p, 0, "6")
	}
}

// TestLongerThanAll has packets that are longer than all bytes that may be: alone, behind others of their flow, beside
// other flows.
func TestLongerThanAll(t *testing.T) {
	for _, n := range []int{1, 100, 1 << 20} {
		for _, long := range []int{n + 1, n + 2, 2*n + 1, 3 << 20} {
			p := mustNew(t, 512, n)
			mustPut(t, p, 1, place{5, 0, 3}, long, "1")
			mustBeEmpty(t, p)
			put(t, p, 2, place{5, 0, 3}, 0, n, 0)
			mustPut(t, p, 5, place{5, 0, 3}, long, "2 3 4 5")
			mustBeEmpty(t, p)
			put(t, p, 6, place{5, 0, 7}, n)
			put(t, p, 7, place{5, 0, 3}, 0, 0)
			put(t, p, 9, place{4, 0, 3}, 0)
			put(t, p, 10, place{6, 0, 3}, 0)
			mustPut(t, p, 11, place{5, 0, 3}, long, "7 8 11")
			mustHold(t, p, n, "9 6 10")
		}
	}
}

// TestDropsAll: one Put may drop all that may be there, and what was put.
func TestDropsAll(t *testing.T) {
	p := mustNew(t, api.MaxPacks, 1000)
	var all []string
	for i := range api.MaxPacks {
		put(t, p, i+1, place{5, 0, 3}, i%2)
		all = append(all, strconv.Itoa(i+1))
	}
	mustPut(t, p, 513, place{5, 0, 3}, 1001, strings.Join(append(all, "513"), " "))
	mustBeEmpty(t, p)
}

// TestDropsFlows: a flow counts, not what a queue or a station has in all, how many packets it has, nor its longest one.
func TestDropsFlows(t *testing.T) {
	p := mustNew(t, 8, 1000)
	put(t, p, 1, place{1, 0, 3}, 40)
	put(t, p, 2, place{1, 0, 7}, 40)
	put(t, p, 3, place{1, 1, 3}, 40)
	put(t, p, 4, place{3, 1, 3}, 47)
	put(t, p, 5, place{4, 1, 3}, 0, 24, 24)
	put(t, p, 8, place{2, 1, 3}, 1)
	mustPut(t, p, 9, place{2, 1, 3}, 1, "5")
	mustPut(t, p, 10, place{2, 1, 3}, 1, "6")
	mustPut(t, p, 11, place{2, 1, 3}, 1, "4")
	mustPut(t, p, 12, place{2, 1, 3}, 1, "1")
	mustPut(t, p, 13, place{2, 1, 3}, 1, "2")
	mustPut(t, p, 14, place{2, 1, 3}, 1, "3")
	mustPut(t, p, 15, place{2, 1, 3}, 1, "7")
	mustPut(t, p, 16, place{2, 1, 3}, 1, "8")
	mustHold(t, p, 8, "9 10 11 12 13 14 15 16")
	// One number of a flow is a flow of its own in each queue: two of 30, none of 60.
	q := mustNew(t, 4, 1000)
	put(t, q, 1, place{1, 0, 3}, 30)
	put(t, q, 3, place{1, 7, 3}, 30)
	put(t, q, 5, place{2, 0, 3}, 30)
	put(t, q, 7, place{3, 0, 7}, 31)
	mustPut(t, q, 9, place{4, 0, 3}, 0, "7")
}

// TestTwoFlowsOfABucket: they are as one, in the order in which they came.
func TestTwoFlowsOfABucket(t *testing.T) {
	p := mustNew(t, 4, 1000)
	put(t, p, 1, place{5, 5, 3}, 10)
	put(t, p, 2, place{5, 5, 3}, 10)
	put(t, p, 3, place{1, 0, 0}, 19)
	put(t, p, 4, place{16, 7, 15}, 19)
	mustPut(t, p, 6, place{8, 0, 0}, 0, "1")
	mustPut(t, p, 8, place{8, 0, 0}, 0, "3")
	mustPut(t, p, 10, place{8, 0, 0}, 0, "4")
	mustPut(t, p, 11, place{8, 0, 0}, 0, "2")
	mustHold(t, p, 0, "6 8 10 11")
}

// TestTies: of flows of as many bytes that of the least station, then identifier, then bucket, whichever came first.
func TestTies(t *testing.T) {
	var places []place
	for _, aid := range []int{1, 2, 9, 15, 16} {
		for _, tid := range []int{0, 1, 6, 7} {
			for _, bucket := range []int{0, 1, 9, 15} {
				places = append(places, place{aid, tid, bucket})
			}
		}
	}
	for i, least := range places {
		for _, other := range places[i+1:] {
			for _, long := range []int{0, 5} {
				p, q := mustNew(t, 2, 100), mustNew(t, 100, max(2*long, 1))
				put(t, p, 1, other, long)
				put(t, p, 2, least, long)
				mustPut(t, p, 3, place{16, 7, 15}, 0, "2")
				put(t, q, 1, least, long)
				put(t, q, 2, other, long)
				if long > 0 {
					mustPut(t, q, 3, place{1, 0, 8}, 1, "1")
				}
				if t.Failed() {
					t.Fatalf("%v and %v of %d bytes", least, other, long)
				}
			}
		}
	}
}

// TestTiesOfMany: all flows of a few queues have as many bytes, and go one behind the other.
func TestTiesOfMany(t *testing.T) {
	var places []place
	for _, queue := range [][2]int{{1, 3}, {2, 0}, {2, 7}, {11, 5}, {16, 0}} {
		for bucket := range api.Buckets {
			places = append(places, place{queue[0], queue[1], bucket})
		}
	}
	for _, long := range []int{0, 7} {
		p := mustNew(t, len(places), 1<<20)
		for i := range places {
			put(t, p, 2+i*37%len(places), places[i*37%len(places)], long)
		}
		last := place{16, 7, 15}
		for i := range places {
			mustPut(t, p, 1000+i, last, 0, strconv.Itoa(2+i))
		}
		for i := range places {
			mustPut(t, p, 2000+i, last, 0, strconv.Itoa(1000+i))
		}
		if p.Len() != len(places) || p.Bytes() != 0 {
			t.Errorf("%d, %d bytes", p.Len(), p.Bytes())
		}
	}
}

// TestNoBytes: where no packet has bytes, the least flow that has packets is the fattest; one that is emptied has none.
func TestNoBytes(t *testing.T) {
	p := mustNew(t, 3, 1)
	put(t, p, 1, place{2, 0, 0}, 0)
	mustTake(t, p, 2, 0, 0, "1")
	put(t, p, 2, place{1, 0, 0}, 0)
	mustDrop(t, p, 1, "2")
	put(t, p, 3, place{9, 2, 0}, 0)
	mustTake(t, p, 9, 2, 0, "3")
	put(t, p, 4, place{9, 2, 5}, 0, 0)
	put(t, p, 6, place{9, 1, 9}, 0)
	mustPut(t, p, 7, place{9, 2, 4}, 0, "6")
	mustPut(t, p, 8, place{9, 2, 4}, 0, "7")
	mustPut(t, p, 9, place{9, 2, 5}, 0, "8")
	mustPut(t, p, 10, place{9, 2, 7}, 0, "4")
	mustPut(t, p, 11, place{10, 0, 0}, 0, "5")
	mustPut(t, p, 12, place{10, 0, 0}, 0, "9")
	mustPut(t, p, 13, place{10, 0, 0}, 0, "10")
	mustPut(t, p, 14, place{1, 0, 0}, 0, "14")
	mustHold(t, p, 0, "11 12 13")
	// One byte is more than none, wherever it is, and is all that may be.
	mustPut(t, p, 15, place{16, 7, 15}, 1, "15")
	mustPut(t, p, 16, place{16, 7, 15}, 2, "16")
	mustPut(t, p, 17, place{10, 0, 0}, 1, "11")
	mustHold(t, p, 1, "12 13 17")
}

// P14.1: Take.

// TestTakeOfNone: a Take of what is none, or of what was never put into, is false, and leaves the pool as it was.
func TestTakeOfNone(t *testing.T) {
	p := mustNew(t, 4, 1000)
	look := func() {
		t.Helper()
		for _, x := range nowhere {
			mustTake(t, p, x[0], x[1], 5000, ".", ".")
		}
		mustTake(t, p, 1, 2, 5000, ".")
		mustTake(t, p, 2, 1, 5000, ".")
	}
	look()
	mustBeEmpty(t, p)
	put(t, p, 1, place{1, 1, 3}, 300, 10)
	put(t, p, 3, place{2, 2, 7}, 10, 10)
	look()
	mustHold(t, p, 330, "1 2 3 4")
	mustTake(t, p, 1, 1, 0, "1", "2", ".")
	look()
	mustHold(t, p, 20, "3 4")
	// Where nothing is any more, or was not yet, they come as to one that is new.
	put(t, p, 5, place{1, 2, 3}, 5)
	mustTake(t, p, 1, 2, 0, "5", ".")
	put(t, p, 6, place{1, 1, 3}, 6)
	mustTake(t, p, 1, 1, 0, "6", ".")
}

// TestTurns: the flows of a queue take turns, and each queue has turns of its own.
func TestTurns(t *testing.T) {
	p := mustNew(t, 512, 1<<20)
	queues := [][2]int{{1, 0}, {1, 7}, {2, 0}, {16, 7}}
	for _, x := range queues {
		put(t, p, 1, place{x[0], x[1], 3}, 150, 150, 150, 150)
		put(t, p, 5, place{x[0], x[1], 7}, 300, 300)
		put(t, p, 7, place{x[0], x[1], 1}, 299, 1, 1)
	}
	wants := []string{"1", "2", "5", "7", "8", "3", "4", "6", "9", "."}
	for i := range 6 {
		for _, x := range queues {
			mustTake(t, p, x[0], x[1], 0, wants[i])
		}
	}
	mustHold(t, p, 4*451, strings.Repeat(" 9 4 6", 4)[1:])
	for _, x := range queues {
		mustTake(t, p, x[0], x[1], 0, wants[6:]...)
	}
	mustBeEmpty(t, p)
}

// TestAgainAndAgain puts and takes by turns, at several stations and identifiers.
func TestAgainAndAgain(t *testing.T) {
	p := mustNew(t, 6, 1000)
	put(t, p, 1, place{1, 0, 3}, 200, 200, 200)
	put(t, p, 4, place{1, 5, 3}, 100)
	mustTake(t, p, 1, 0, 0, "1")
	put(t, p, 11, place{1, 0, 7}, 250, 100)
	mustHold(t, p, 850, "2 3 11 12 4")
	mustTake(t, p, 1, 5, 1, "4")
	mustTake(t, p, 1, 0, 1, "2", "11")
	// Of 200 with bucket 3, and of 300 with the other station.
	put(t, p, 21, place{2, 0, 3}, 100, 150, 50)
	mustHold(t, p, 600, "3 12 21 22 23")
	mustPut(t, p, 24, place{2, 0, 3}, 450, "21")
	mustHold(t, p, 950, "3 12 22 23 24")
	mustPut(t, p, 25, place{3, 3, 3}, 200, "22")
	mustHold(t, p, 1000, "3 12 23 24 25")
	put(t, p, 26, place{3, 3, 3}, 0)
	mustPut(t, p, 27, place{3, 3, 3}, 0, "23")
	mustTake(t, p, 2, 0, 2, "24", ".")
	mustTake(t, p, 1, 0, 2, "12", "3", ".")
	mustTake(t, p, 3, 3, 2, "25", "26", "27", ".")
	mustBeEmpty(t, p)
}

// TestTakeMakesRoom: what is taken, and what CoDel drops, is there no more.
func TestTakeMakesRoom(t *testing.T) {
	p := mustNew(t, 12, 12000)
	put(t, p, 1, place{2, 3, 3}, slices.Repeat([]int{1000}, 12)...)
	c := p.Clone()
	mustPut(t, c, 13, place{2, 3, 3}, 1, "1")
	mustTake(t, p, 2, 3, 200, "1")
	mustHold(t, p, 11000, "2 3 4 5 6 7 8 9 10 11 12")
	put(t, p, 13, place{2, 3, 3}, 1000)
	mustTake(t, p, 2, 3, 1200, "-2 3")
	mustHold(t, p, 10000, "4 5 6 7 8 9 10 11 12 13")
	put(t, p, 14, place{2, 3, 3}, 1000, 1000)
	mustPut(t, p, 16, place{1, 0, 0}, 0, "4")
	mustHold(t, p, 11000, "16 5 6 7 8 9 10 11 12 13 14 15")
	mustTake(t, p, 2, 3, 3500, "-5 -6 -7 8")
	mustHold(t, p, 7000, "16 9 10 11 12 13 14 15")
	put(t, p, 17, place{2, 3, 3}, 1000, 1000, 1000, 1000)
	mustPut(t, p, 21, place{2, 3, 3}, 0, "9")
	mustHold(t, p, 10000, "16 10 11 12 13 14 15 17 18 19 20 21")
}

// TestCodelOfEach: each queue has CoDel of its own.
func TestCodelOfEach(t *testing.T) {
	p := mustNew(t, 512, 1<<20)
	queues := [][2]int{{1, 0}, {1, 1}, {2, 0}}
	for i, x := range queues {
		put(t, p, 20*i+1, place{x[0], x[1], 3}, slices.Repeat([]int{1000}, 12)...)
	}
	mustTake(t, p, 1, 0, 150, "1")
	mustTake(t, p, 1, 1, 300, "21")
	mustTake(t, p, 2, 0, 1149, "41")
	mustTake(t, p, 1, 1, 1149, "22")
	mustTake(t, p, 1, 0, 1150, "-2 3")
	mustTake(t, p, 2, 0, 1300, "42")
	mustTake(t, p, 1, 1, 1300, "-23 24")
	mustTake(t, p, 1, 0, 2149, "4")
	mustTake(t, p, 2, 0, 2149, "-43 44")
	mustTake(t, p, 1, 0, 2150, "-5 6")
	mustTake(t, p, 1, 1, 2299, "25")
	mustTake(t, p, 1, 1, 2300, "-26 27")
}

// TestDroppedCostsNoTurn: what is dropped for too many costs its flow nothing, and a flow that is emptied so keeps its
// place in its list, its deficit, and what CoDel knows of it.
func TestDroppedCostsNoTurn(t *testing.T) {
	p := mustNew(t, 4, 10000)
	put(t, p, 1, place{5, 5, 3}, 5000, 299, 1, 10)
	mustPut(t, p, 11, place{5, 5, 7}, 10, "1")
	mustTake(t, p, 5, 5, 0, "2", "3", "11", "4", ".")
	// The first flow has 50 left, and is ahead of the other one.
	p = mustNew(t, 3, 10000)
	put(t, p, 1, place{5, 5, 3}, 250, 100)
	put(t, p, 11, place{5, 5, 7}, 10)
	mustTake(t, p, 5, 5, 0, "1")
	put(t, p, 21, place{1, 0, 0}, 0)
	mustPut(t, p, 22, place{1, 0, 0}, 0, "2")
	mustDrop(t, p, 1, "21 22")
	put(t, p, 3, place{5, 5, 3}, 100, 100)
	mustTake(t, p, 5, 5, 0, "3", "11", "4", ".")
	// All packets of a queue are dropped: it remembers since when they waited too long.
	p = mustNew(t, 512, 12000)
	put(t, p, 1, place{5, 5, 3}, slices.Repeat([]int{1000}, 5)...)
	mustTake(t, p, 5, 5, 200, "1")
	mustPut(t, p, 11, place{5, 5, 3}, 13000, "2 3 4 5 11")
	mustHave(t, p)
	put(t, p, 12, place{5, 5, 3}, slices.Repeat([]int{1000}, 5)...)
	mustTake(t, p, 5, 5, 1199, "12")
	mustTake(t, p, 5, 5, 1200, "-13 14")
}

// P14.1: Drop.

// TestDrop tells all of a station, by identifier, then bucket, then as they stand, and nothing of another one.
func TestDrop(t *testing.T) {
	p := mustNew(t, 512, 1<<20)
	put(t, p, 1, place{2, 7, 3}, 10, 20)
	put(t, p, 3, place{2, 0, 15}, 30)
	put(t, p, 4, place{2, 3, 1}, 0)
	put(t, p, 5, place{2, 0, 0}, 5, 5)
	put(t, p, 7, place{1, 0, 3}, 7)
	put(t, p, 8, place{3, 7, 3}, 8)
	put(t, p, 9, place{2, 0, 15}, 9)
	put(t, p, 10, place{2, 7, 2}, 1)
	put(t, p, 11, place{2, 6, 9}, 2)
	put(t, p, 12, place{2, 1, 9}, 3)
	mustTake(t, p, 2, 7, 0, "1")
	c := p.Clone()
	for _, aid := range []int{0, -1, 17, 18, -2, 4, 16, 258, math.MinInt, math.MaxInt} {
		mustDrop(t, p, aid, "")
	}
	mustHold(t, p, 7+5+5+30+9+3+0+2+1+20+8, "7 5 6 3 9 12 4 11 10 2 8")
	mustDrop(t, p, 2, "5 6 3 9 12 4 11 10 2")
	mustHold(t, p, 15, "7 8")
	mustDrop(t, p, 2, "")
	for tid := range api.TIDs {
		mustTake(t, p, 2, tid, 0, ".")
	}
	mustHold(t, p, 15, "7 8")
	mustDrop(t, p, 3, "8")
	mustDrop(t, p, 1, "7")
	mustBeEmpty(t, p)
	mustDrop(t, c, 1, "7")
	mustDrop(t, c, 3, "8")
	mustDrop(t, c, 2, "5 6 3 9 12 4 11 10 2")
	mustBeEmpty(t, c)
}

// TestDropMakesRoom: what is gone is there no more.
func TestDropMakesRoom(t *testing.T) {
	p := mustNew(t, 3, 100)
	put(t, p, 1, place{2, 0, 3}, 30)
	put(t, p, 2, place{2, 7, 3}, 40)
	put(t, p, 3, place{3, 0, 3}, 30)
	mustDrop(t, p, 2, "1 2")
	put(t, p, 4, place{2, 0, 3}, 30)
	put(t, p, 5, place{2, 7, 3}, 40)
	mustHold(t, p, 100, "4 5 3")
	mustPut(t, p, 6, place{4, 0, 0}, 0, "5")
}

// TestTurnsBehindDrop: in a queue that is as new each flow that comes is a new one with a Quantum, whether Drop found
// something there or not.
func TestTurnsBehindDrop(t *testing.T) {
	without := []string{"14", "11", "12", "13", "."}
	with := []string{"11", "12", "14", "13", "."}
	for i, drop := range []func(*Pool){
		func(p *Pool) { mustTake(t, p, 4, 2, 0, "2") },
		func(p *Pool) { mustTake(t, p, 4, 2, 0, "2"); mustDrop(t, p, 3, ""); mustDrop(t, p, 5, "") },
		func(p *Pool) { mustTake(t, p, 4, 2, 0, "2"); mustDrop(t, p, 4, "") },
		func(p *Pool) { mustDrop(t, p, 4, "2") },
		func(p *Pool) { mustDrop(t, p, 4, "2"); mustDrop(t, p, 4, ""); mustTake(t, p, 4, 2, 0, ".") },
	} {
		p := mustNew(t, 512, 1<<20)
		put(t, p, 1, place{4, 2, 3}, 400)
		put(t, p, 2, place{4, 2, 7}, 10)
		mustTake(t, p, 4, 2, 0, "1")
		drop(p)
		put(t, p, 11, place{4, 2, 3}, 299, 1, 10)
		put(t, p, 14, place{4, 2, 7}, 10)
		// Without a Drop bucket 3 is an elder one with 200, and bucket 7 a new one still.
		mustTake(t, p, 4, 2, 0, [][]string{without, with}[min(i/2, 1)]...)
	}
}

// TestCodelBehindDrop: a queue that is as new knows nothing of what waited too long, nor of how often it dropped.
func TestCodelBehindDrop(t *testing.T) {
	for _, drop := range []bool{false, true} {
		p := mustNew(t, 512, 1<<20)
		at := place{4, 2, 3}
		again := func(want string) {
			t.Helper()
			if drop {
				mustDrop(t, p, 4, want)
			}
		}
		put(t, p, 1, at, slices.Repeat([]int{1000}, 12)...)
		mustTake(t, p, 4, 2, 200, "1")
		if drop {
			mustDrop(t, p, 4, "2 3 4 5 6 7 8 9 10 11 12")
			put(t, p, 1, at, slices.Repeat([]int{1000}, 12)...)
			mustTake(t, p, 4, 2, 1200, "1")
			mustTake(t, p, 4, 2, 2199, "2")
			mustTake(t, p, 4, 2, 2200, "-3 4")
			mustTake(t, p, 4, 2, 3200, "-5 6")
			mustTake(t, p, 4, 2, 3907, "-7 8")
			mustTake(t, p, 4, 2, 4484, "-9 10")
			mustTake(t, p, 4, 2, 4500, "11", "12", ".")
		} else {
			mustTake(t, p, 4, 2, 1200, "-2 3")
			mustTake(t, p, 4, 2, 2200, "-4 5")
			mustTake(t, p, 4, 2, 2907, "-6 7")
			mustTake(t, p, 4, 2, 3484, "-8 9")
			mustTake(t, p, 4, 2, 3500, "10", "11", "12", ".")
		}
		// Nothing is there: what it remembers all the same is gone by a Drop.
		again("")
		put(t, p, 13, at, slices.Repeat([]int{1000}, 12)...)
		mustTake(t, p, 4, 2, 4600, "13")
		mustTake(t, p, 4, 2, 5600, "-14 15")
		if drop {
			mustTake(t, p, 4, 2, 6599, "16")
			mustTake(t, p, 4, 2, 6600, "-17 18")
		} else {
			// It began with a count of 3: 577 behind.
			mustTake(t, p, 4, 2, 6176, "16")
			mustTake(t, p, 4, 2, 6177, "-17 18")
		}
	}
}

// P14.1: Has, Len, Bytes.

func TestHas(t *testing.T) {
	p := mustNew(t, 3, 100)
	mustHave(t, p)
	put(t, p, 1, place{1, 7, 3}, 0)
	mustHave(t, p, [2]int{1, 7})
	put(t, p, 2, place{7, 1, 3}, 5, 5)
	mustHave(t, p, [2]int{1, 7}, [2]int{7, 1})
	mustPut(t, p, 4, place{16, 0, 3}, 11, "4")
	mustHave(t, p, [2]int{1, 7}, [2]int{7, 1})
	mustPut(t, p, 5, place{16, 0, 3}, 9, "2")
	mustHave(t, p, [2]int{1, 7}, [2]int{7, 1}, [2]int{16, 0})
	mustPut(t, p, 6, place{16, 0, 3}, 2, "5")
	mustTake(t, p, 7, 1, 0, "3")
	mustHave(t, p, [2]int{1, 7}, [2]int{16, 0})
	mustDrop(t, p, 16, "6")
	mustHave(t, p, [2]int{1, 7})
	mustTake(t, p, 1, 7, 0, "1")
	mustHave(t, p)
}

// TestCounts: Len and Bytes are of all that is there, whichever way it comes and goes.
func TestCounts(t *testing.T) {
	p := mustNew(t, 4, 100)
	must := func(n, long int) {
		t.Helper()
		if p.Len() != n || p.Bytes() != long {
			t.Errorf("%d, %d bytes, want %d, %d", p.Len(), p.Bytes(), n, long)
		}
	}
	must(0, 0)
	put(t, p, 1, place{1, 0, 0}, 40)
	must(1, 40)
	put(t, p, 2, place{16, 7, 15}, 60)
	must(2, 100)
	put(t, p, 3, place{1, 7, 15}, 0, 0)
	must(4, 100)
	mustPut(t, p, 5, place{1, 7, 15}, 0, "2")
	must(4, 40)
	mustTake(t, p, 1, 7, 0, "3")
	must(3, 40)
	mustPut(t, p, 6, place{1, 0, 0}, 61, "1")
	must(3, 61)
	mustPut(t, p, 7, place{1, 7, 15}, 200, "4 5 7")
	must(1, 61)
	put(t, p, 8, place{2, 2, 2}, 1)
	must(2, 62)
	mustDrop(t, p, 1, "6")
	must(1, 1)
	mustTake(t, p, 2, 2, 0, "8", ".")
	must(0, 0)
}

// TestFullAgainAndAgain: never is there more than may be.
func TestFullAgainAndAgain(t *testing.T) {
	for _, x := range [][2]int{{1, 1}, {1, 1 << 20}, {512, 1}, {512, 1 << 20}, {7, 3000}, {512, 20000}} {
		p, d := mustNew(t, x[0], x[1]), dice(x[0])
		came, went := 0, 0
		for i := range 3000 {
			at := place{1 + d.below(16), d.below(8), d.below(16)}
			l, err := p.Put(at.aid, packet(i, at, d.long(1+2*x[1]/x[0])))
			came, went = came+1, went+len(l)
			if err != nil || p.Len() > x[0] || p.Bytes() > x[1] || p.Len() != came-went {
				t.Fatalf("%v: %d, %d bytes, %d came, %d went, %v", x, p.Len(), p.Bytes(), came, went, err)
			}
		}
		if went == 0 {
			t.Errorf("%v: none was dropped", x)
		}
	}
}

// Memory.

// TestBodies: each Body handed in and out is its own memory. (The other tests write into all of them, too.)
func TestBodies(t *testing.T) {
	p := mustNew(t, 4, 100)
	in := []byte("first")
	for id, b := range [][]byte{in, in[1:3], in, in} {
		p.Put(1, api.Packet{ID: id + 1, Flow: 1, TID: id / 3, Body: b})
	}
	copy(in, "xxxxx")
	c, d := p.Clone(), p.Clone()
	l, _ := p.Put(1, api.Packet{ID: 5, Flow: 1, TID: 1})
	x, _, _ := p.Take(1, 0, 0)
	for _, x := range append(append(p.Drop(1), l...), x) {
		write(x)
	}
	for i, want := range []string{"first", "ir", "first"} {
		x, _, is := c.Take(1, 0, 0)
		if !is || string(x.Body) != want {
			t.Errorf("the copy's %d is %q", i+1, x.Body)
		}
		write(x)
	}
	l, _ = c.Put(1, api.Packet{ID: 6, Flow: 1, TID: 1, Body: make([]byte, 96)})
	if len(l) != 1 || string(l[0].Body) != "first" {
		t.Errorf("of the copy was dropped %+v", l)
	}
	write(l[0])
	for i, x := range d.Drop(1) {
		if want := []string{"first", "ir", "first", "first"}[i]; string(x.Body) != want {
			t.Errorf("the other copy's %d is %q", i+1, x.Body)
		}
	}
}

// TestNoBody: a Body of nothing, nil or not, with memory behind it or not.
func TestNoBody(t *testing.T) {
	memory := []byte("behind")
	for _, none := range [][]byte{nil, {}, memory[:0], memory[3:3]} {
		p := mustNew(t, 1, 1)
		p.Put(1, api.Packet{ID: 1, Body: none})
		c, d := p.Clone(), p.Clone()
		x, _, is := p.Take(1, 0, 0)
		l, err := c.Put(2, api.Packet{ID: 2, Body: none})
		for _, x := range append(append(l, d.Drop(1)...), x) {
			if !is || err != nil || x.ID != 1 || len(x.Body) != 0 {
				t.Errorf("%+v, %v, %v", x, is, err)
			}
			write(x)
		}
	}
	if string(memory) != "behind" {
		t.Errorf("%q", memory)
	}
}

// TestListsAreNew: what is written into a list, or appended to it, no other one shows.
func TestListsAreNew(t *testing.T) {
	p := mustNew(t, 6, 100)
	at := place{1, 0, 3}
	put(t, p, 1, at, 10, 10, 10, 10, 10)
	c := p.Clone()
	one, err := p.Put(1, packet(6, at, 200))
	two, other := c.Put(1, packet(6, at, 200))
	if err != nil || other != nil || len(one) != 6 {
		t.Fatal(one, err, other)
	}
	clear(one[:cap(one)])
	for i, x := range two {
		if x.ID != i+1 {
			t.Errorf("%d is %d", i+1, x.ID)
		}
	}
	put(t, p, 11, at, 10, 10, 10)
	c = p.Clone()
	one, two = p.Drop(1), c.Drop(1)
	put(t, p, 21, at, 10, 10, 10)
	put(t, c, 31, at, 10, 10, 10)
	clear(one[:cap(one)])
	for i, x := range two {
		if x.ID != i+11 {
			t.Errorf("%d is %d", i+11, x.ID)
		}
	}
	clear(two[:cap(two)])
	mustHold(t, p, 30, "21 22 23")
	mustHold(t, c, 30, "31 32 33")
}

// P14.1: Clone.

// TestClone: a copy goes its own way, and so does the pool that was copied.
func TestClone(t *testing.T) {
	p := mustNew(t, 5, 400)
	put(t, p, 1, place{1, 0, 3}, 300, 20, 10)
	put(t, p, 4, place{1, 5, 7}, 50)
	put(t, p, 5, place{16, 7, 3}, 20)
	mustTake(t, p, 1, 0, 0, "1")
	c := p.Clone()
	d := c.Clone()
	mustTake(t, p, 1, 0, 0, "2")
	mustHold(t, c, 100, "2 3 4 5")
	mustDrop(t, c, 1, "2 3 4")
	mustHold(t, p, 80, "3 4 5")
	mustHold(t, c, 20, "5")
	put(t, p, 11, place{2, 0, 3}, 60)
	put(t, c, 21, place{2, 0, 3}, 61)
	put(t, c, 22, place{1, 0, 3}, 1)
	put(t, d, 31, place{1, 0, 3}, 2)
	mustHold(t, p, 140, "3 4 11 5")
	mustHold(t, c, 82, "22 21 5")
	mustHold(t, d, 102, "2 3 31 4 5")
	mustPut(t, d, 32, place{3, 3, 3}, 0, "4")
	mustPut(t, d, 33, place{3, 3, 3}, 401, "32 33")
	mustHold(t, d, 52, "2 3 31 5")
	mustTake(t, p, 16, 7, 0, "5", ".")
	mustTake(t, c, 16, 7, 0, "5", ".")
	mustTake(t, d, 16, 7, 0, "5", ".")
	mustTake(t, p, 1, 5, 0, "4", ".")
	mustDrop(t, p, 2, "11")
	mustTake(t, p, 1, 0, 0, "3", ".")
	mustDrop(t, c, 2, "21")
	mustTake(t, c, 1, 0, 0, "22", ".")
	mustTake(t, d, 1, 0, 0, "2", "3", "31", ".")
	mustBeEmpty(t, p)
	mustBeEmpty(t, c)
	mustBeEmpty(t, d)
}

// TestCloneOfLimits: a copy has the limits, the seed and the times of its pool, in queues that it opens itself, too.
func TestCloneOfLimits(t *testing.T) {
	for _, x := range [][2]int{{1, 10}, {3, 7}, {512, 1 << 20}} {
		c := mustNew(t, x[0], x[1]).Clone().Clone()
		for i := range x[0] {
			put(t, c, 100+i, place{3, 3, 3}, 0)
		}
		mustPut(t, c, 99, place{4, 4, 4}, x[1], "99")
		mustPut(t, c, 98, place{4, 4, 4}, 0, "100")
		mustTake(t, c, 4, 4, 0, "98")
		mustPut(t, c, 97, place{4, 4, 4}, x[1], "")
		c.Drop(3)
		mustPut(t, c, 96, place{4, 4, 4}, 1, "97")
		mustHold(t, c, 1, "96")
	}
	p := mustNew(t, 512, 1<<20)
	c := p.Clone()
	put(t, c, 1, place{3, 3, 3}, slices.Repeat([]int{1000}, 8)...)
	put(t, c, 11, place{3, 3, 7}, 0)
	mustBeEmpty(t, p)
	mustTake(t, c.Clone(), 3, 3, 99, "1")
	mustTake(t, c, 3, 3, 100, "1")
	mustTake(t, c, 3, 3, 100, "11")
	mustTake(t, c.Clone(), 3, 3, 1099, "2")
	mustTake(t, c, 3, 3, 1100, "-2 3")
	mustTake(t, c.Clone(), 3, 3, 2099, "4")
	mustTake(t, c.Clone(), 3, 3, 2100, "-4 5")
	mustBeEmpty(t, p)
}

// TestNoneTouchesAnother: one pool tells nothing of another one.
func TestNoneTouchesAnother(t *testing.T) {
	p, q := mustNew(t, 2, 100), mustNew(t, 3, 10)
	put(t, p, 1, place{1, 0, 3}, 50, 50)
	mustBeEmpty(t, q)
	put(t, q, 1, place{1, 0, 3}, 5, 5, 0)
	mustHold(t, p, 100, "1 2")
	mustDrop(t, q, 1, "1 2 3")
	mustHold(t, p, 100, "1 2")
}

// P14.1 and P14.2: against what the chapter words.

// entry is a packet, and for whom it is.
type entry struct {
	aid int
	x   api.Packet
}

// rival is a pool as the chapter words it: all packets stand in one list, as they were put, and what is dropped of them
// is looked for there; of the queues it asks nothing but whose turn it is.
type rival struct {
	seed             uint32
	target, interval int64
	packets, bytes   int
	all              []entry
	queues           map[[2]int]*fq.Queue
}

func (r *rival) clone() *rival {
	c := *r
	c.all = slices.Clone(r.all)
	c.queues = map[[2]int]*fq.Queue{}
	for x, q := range r.queues {
		c.queues[x] = q.Clone()
	}
	return &c
}

func (r *rival) place(e entry) place { return place{e.aid, e.x.TID, hash.Bucket(e.x.Flow, r.seed)} }

func (r *rival) size() int {
	n := 0
	for _, e := range r.all {
		n += len(e.x.Body)
	}
	return n
}

// before tells whether a is the one to be dropped of, if both have as many bytes.
func before(a, b place) bool {
	if a.aid != b.aid {
		return a.aid < b.aid
	}
	if a.tid != b.tid {
		return a.tid < b.tid
	}
	return a.bucket < b.bucket
}

// fattest is where the most bytes are.
func (r *rival) fattest() place {
	sizes := map[place]int{}
	for _, e := range r.all {
		sizes[r.place(e)] += len(e.x.Body)
	}
	var fattest place
	for at, n := range sizes {
		most := sizes[fattest]
		if fattest.aid == 0 || n > most || n == most && before(at, fattest) {
			fattest = at
		}
	}
	return fattest
}

// gone takes a packet out of the list of all, by its number.
func (r *rival) gone(x api.Packet) {
	i := slices.IndexFunc(r.all, func(e entry) bool { return e.x.ID == x.ID })
	r.all = append(slices.Clone(r.all[:i]), r.all[i+1:]...)
}

func (r *rival) put(aid int, x api.Packet) ([]api.Packet, error) {
	if aid <= 0 || aid >= 17 || x.TID <= -1 || x.TID >= 8 {
		return nil, api.ErrRange
	}
	queue := [2]int{aid, x.TID}
	if r.queues[queue] == nil {
		r.queues[queue] = fq.New(r.seed, r.target, r.interval)
	}
	r.queues[queue].Put(x)
	r.all = append(r.all, entry{aid, x})
	var dropped []api.Packet
	for len(r.all) > r.packets || r.size() > r.bytes {
		at := r.fattest()
		i := slices.IndexFunc(r.all, func(e entry) bool { return r.place(e) == at })
		first := r.all[i].x
		r.queues[[2]int{at.aid, at.tid}].DropHead(at.bucket)
		r.gone(first)
		dropped = append(dropped, first)
	}
	return dropped, nil
}

func (r *rival) take(aid, tid int, now int64) (api.Packet, []api.Packet, bool) {
	q := r.queues[[2]int{aid, tid}]
	if q == nil {
		return api.Packet{}, nil, false
	}
	x, dropped, is := q.Take(now)
	for _, d := range dropped {
		r.gone(d)
	}
	if is {
		r.gone(x)
	}
	return x, dropped, is
}

func (r *rival) drop(aid int) []api.Packet {
	var mine []entry
	for _, e := range r.all {
		if e.aid == aid {
			mine = append(mine, e)
		}
	}
	slices.SortStableFunc(mine, func(a, b entry) int {
		if before(r.place(a), r.place(b)) {
			return -1
		}
		if before(r.place(b), r.place(a)) {
			return 1
		}
		return 0
	})
	var l []api.Packet
	for _, e := range mine {
		r.gone(e.x)
		l = append(l, e.x)
	}
	for tid := range 8 {
		delete(r.queues, [2]int{aid, tid})
	}
	return l
}

// pair is a pool and its rival.
type pair struct {
	p *Pool
	r *rival
}

func newPair(t *testing.T, seed uint32, target, interval int64, packets, bytes int) pair {
	t.Helper()
	p, err := New(seed, target, interval, packets, bytes)
	if err != nil {
		t.Fatal(err)
	}
	return pair{p, &rival{seed: seed, target: target, interval: interval, packets: packets, bytes: bytes, queues: map[[2]int]*fq.Queue{}}}
}

func (x pair) clone() pair { return pair{x.p.Clone(), x.r.clone()} }

// spend writes into all that was handed out.
func spend(l []api.Packet) {
	for _, x := range l {
		write(x)
	}
	clear(l[:cap(l)])
}

func (x pair) put(t *testing.T, aid int, p api.Packet) int {
	t.Helper()
	mine := p
	mine.Body = bytes.Clone(p.Body)
	got, err := hand(t, x.p, aid, mine)
	want, wantErr := x.r.put(aid, p)
	if !slices.EqualFunc(got, want, same) || err != wantErr {
		t.Fatalf("Put(%d, %d) = %+v, %v, want %+v, %v", aid, p.ID, got, err, want, wantErr)
	}
	spend(got)
	return len(want)
}

func (x pair) take(t *testing.T, aid, tid int, now int64) (int, bool) {
	t.Helper()
	p, dropped, is := x.p.Take(aid, tid, now)
	wantP, wantDropped, wantIs := x.r.take(aid, tid, now)
	if !same(p, wantP) || !slices.EqualFunc(dropped, wantDropped, same) || is != wantIs {
		t.Fatalf("Take(%d, %d, %d) = %+v, %+v, %v, want %+v, %+v, %v", aid, tid, now, p, dropped, is, wantP, wantDropped, wantIs)
	}
	write(p)
	spend(dropped)
	return len(wantDropped), is
}

func (x pair) drop(t *testing.T, aid int) {
	t.Helper()
	got, want := x.p.Drop(aid), x.r.drop(aid)
	if !slices.EqualFunc(got, want, same) {
		t.Fatalf("Drop(%d) = %+v, want %+v", aid, got, want)
	}
	spend(got)
}

// look holds all that a pool tells of itself against its rival.
func (x pair) look(t *testing.T) {
	t.Helper()
	if n, m := x.p.Len(), x.p.Bytes(); n != len(x.r.all) || m != x.r.size() || n > x.r.packets || m > x.r.bytes {
		t.Fatalf("%d packets, %d bytes, want %d, %d, at most %d, %d", n, m, len(x.r.all), x.r.size(), x.r.packets, x.r.bytes)
	}
	has := map[[2]int]bool{}
	for _, e := range x.r.all {
		has[[2]int{e.aid, e.x.TID}] = true
	}
	for aid := -1; aid <= 18; aid++ {
		for tid := -1; tid <= 9; tid++ {
			if x.p.Has(aid, tid) != has[[2]int{aid, tid}] {
				t.Fatalf("Has(%d, %d) = %v", aid, tid, !has[[2]int{aid, tid}])
			}
		}
	}
}

// end takes and drops all that is left.
func (x pair) end(t *testing.T, now int64) {
	t.Helper()
	c := x.clone()
	for aid := 1; aid <= api.MaxSta; aid++ {
		for tid := range api.TIDs {
			for is := true; is; {
				_, is = x.take(t, aid, tid, now)
			}
		}
		c.drop(t, aid)
	}
	x.look(t)
	c.look(t)
}

// dice answer numbers by a rule that comes by everywhere.
type dice uint64

func (d *dice) below(n int) int {
	*d += 0x9e3779b97f4a7c15
	x := uint64(*d)
	x = (x ^ x>>30) * 0xbf58476d1ce4e5b9
	x = (x ^ x>>27) * 0x94d049bb133111eb
	return int((x ^ x>>31) % uint64(n))
}

// long is a length: nothing, little, a round one, as long as may be, more.
func (d *dice) long(most int) int {
	switch d.below(12) {
	case 0:
		return 0
	case 1:
		return d.below(4)
	case 2, 3, 4:
		return 100 * d.below(8)
	case 5:
		return min(most+d.below(3)-1, 4000)
	}
	return min(d.below(most+1), d.below(1501))
}

// course is a pool in which packets come and go at random for a while.
type course struct {
	dice             dice
	x                pair
	stas, tids, nums int
	now              int64
	id               int
	full, late       int
}

// one puts a packet; now and then one that is refused.
func (c *course) one(t *testing.T) {
	t.Helper()
	c.id++
	aid, tid := 1+c.dice.below(c.stas), c.dice.below(c.tids)
	switch c.dice.below(40) {
	case 0:
		aid = []int{0, 17, -1, 99}[c.dice.below(4)]
	case 1:
		tid = []int{-1, 8, 15, -8}[c.dice.below(4)]
	}
	flow := uint32(c.dice.below(c.nums)) * 0x9e3779b9
	long := c.dice.long(c.x.r.bytes)
	c.full += c.x.put(t, aid, api.Packet{ID: c.id, Flow: flow, TID: tid, At: c.now - int64(c.dice.below(50)), Body: body(c.id, long)})
}

// step puts some, or takes some, or drops a station, or goes on with a copy.
func (c *course) step(t *testing.T, forks bool) {
	t.Helper()
	c.now += int64(c.dice.below(200))
	switch what := c.dice.below(24); {
	case what < 12:
		for range c.dice.below(8) {
			c.one(t)
		}
	case what < 21:
		aid, tid := 1+c.dice.below(c.stas), c.dice.below(c.tids)
		if c.dice.below(8) == 0 {
			aid, tid = c.dice.below(18), c.dice.below(10)-1
		}
		for range c.dice.below(7) {
			late, _ := c.x.take(t, aid, tid, c.now)
			c.late += late
		}
	case what < 22:
		if c.dice.below(4) == 0 {
			c.x.drop(t, c.dice.below(c.stas+2))
		}
	case forks:
		// The one of the two that is left alone is not what it was, if the other one touches it.
		alone, other := c.x, *c
		other.x = c.x.clone()
		if c.dice.below(2) == 0 {
			alone, other.x = other.x, alone
		}
		for range 12 {
			other.step(t, false)
		}
		other.x.end(t, other.now)
		c.x = alone
	}
	c.x.look(t)
}

// TestModel has pools of few flows and of many, with room for few packets and for many.
func TestModel(t *testing.T) {
	full, late := 0, 0
	for i := range 150 {
		c := course{
			dice: dice(i), stas: []int{1, 2, 3, 16}[i%4], tids: []int{1, 2, 8}[i/4%3], nums: []int{1, 2, 4, 40, 9}[i%5],
		}
		packets := []int{1, 2, 3, 8, 20, 60, 60, 200, 512}[c.dice.below(9)]
		bytes := []int{1, 50, 700, 3000, 20000, 20000, 60000, 60000, 1 << 20}[c.dice.below(9)]
		c.x = newPair(t, uint32(c.dice.below(1<<31-1)), int64(c.dice.below(300)), int64(c.dice.below(200)), packets, bytes)
		for range 200 {
			c.step(t, true)
		}
		c.x.end(t, c.now)
		full, late = full+c.full, late+c.late
	}
	if full < 5000 || late < 500 {
		t.Errorf("%d were dropped for too many, %d for too late", full, late)
	}
}

// FuzzPool holds a pool against its rival, at what three bytes each say.
func FuzzPool(f *testing.F) {
	f.Add(uint32(9), int64(100), int64(1000), 4, 300, []byte{0, 1, 100, 0, 2, 90, 16, 1, 110, 0, 1, 120, 8, 1, 40, 0, 2, 2})
	f.Add(uint32(0), int64(0), int64(0), 1, 1, bytes.Repeat([]byte{0, 17, 0, 0, 1, 0, 2, 2, 1, 9, 1, 9}, 9))
	f.Add(uint32(1<<31), int64(5), int64(50), 512, 1<<20, bytes.Repeat([]byte{7, 255, 255, 7, 255, 254, 9, 255, 30, 11, 0, 0, 10, 15, 0}, 9))
	f.Fuzz(func(t *testing.T, seed uint32, target, interval int64, packets, bytes int, steps []byte) {
		if _, err := New(seed, target, interval, packets, bytes); (err != nil) != (packets <= 0 || packets >= 513 || bytes <= 0 || bytes >= 1<<20+1) {
			t.Fatalf("New(%d, %d): %v", packets, bytes, err)
		} else if err != nil {
			return
		}
		x, now := newPair(t, seed, target, interval, packets, bytes), int64(0)
		var left []pair
		for i := 0; i+2 < min(len(steps), 300); i += 3 {
			what, aid, tid, number := int(steps[i]), int(steps[i+1]%18), int(steps[i+1]/18)-1, int(steps[i+2])
			switch what % 12 {
			case 8, 9:
				now += int64(number * number / 8)
				x.take(t, aid, tid, now)
			case 10:
				x.drop(t, aid)
			case 11:
				if len(left) < 8 {
					left = append(left, x)
					x = x.clone()
				}
			default:
				x.put(t, aid, api.Packet{ID: i, Flow: uint32(what / 12), TID: tid % 8, At: now, Body: body(i, number*(what%4)*(what%4))})
			}
			x.look(t)
		}
		for _, x := range append(left, x) {
			x.look(t)
			x.end(t, now)
		}
	})
}
