package fq

import (
	"bytes"
	"math"
	"slices"
	"strconv"
	"strings"
	"testing"

	"muezzin/api"
	"muezzin/codel"
	"muezzin/hash"
)

// What a queue is made of where a test names nothing else.
const (
	seed     = 9
	target   = 100
	interval = 1000
)

// flows are two flows of each bucket, of that seed.
var flows = [api.Buckets][2]uint32{
	{9, 22}, {13, 30}, {12, 26}, {1, 14}, {3, 16}, {10, 35}, {21, 96}, {7, 8},
	{11, 15}, {41, 45}, {23, 28}, {0, 32}, {2, 5}, {6, 18}, {4, 25}, {24, 40},
}

// none are buckets that are none.
var none = []int{-1, -2, -16, math.MinInt, math.MinInt + 5, 16, 17, 32, 1 << 16, 1<<16 + 5, math.MaxInt}

// spoil stands where nobody is to write, or is to have read.
const spoil = 0xee

// body is the bytes of a packet of that number.
func body(id, long int) []byte {
	b := make([]byte, long)
	for i := range b {
		b[i] = byte(id + 3*i)
	}
	return b
}

// packet is a packet of a bucket: by its number of the one or of the other flow.
func packet(id, bucket, long int, at int64) api.Packet {
	return api.Packet{ID: id, Flow: flows[bucket][id%2], TID: id % 8, At: at, Body: body(id, long)}
}

// same tells whether two packets are alike; nil and the empty Body are.
func same(a, b api.Packet) bool {
	return a.ID == b.ID && a.Flow == b.Flow && a.TID == b.TID && a.At == b.At && bytes.Equal(a.Body, b.Body)
}

// nothing tells whether each field has its zero value.
func nothing(p api.Packet) bool { return same(p, api.Packet{}) }

// hand puts p, whose memory has more behind it, and writes into all of that afterwards.
func hand(t *testing.T, q *Queue, p api.Packet) int {
	t.Helper()
	was := bytes.Clone(p.Body)
	memory := append(bytes.Clone(p.Body), spoil, spoil, spoil)
	p.Body = memory[:len(was)]
	b := q.Put(p)
	if !bytes.Equal(memory, append(was, spoil, spoil, spoil)) {
		t.Errorf("Put of %d wrote into its Body", p.ID)
	}
	write(p)
	return b
}

// write writes into all memory of a Body that was handed out.
func write(p api.Packet) {
	memory := p.Body[:cap(p.Body)]
	for i := range memory {
		memory[i] = spoil
	}
}

// put puts packets of a bucket, each of them so long, numbered from id on.
func put(t *testing.T, q *Queue, bucket int, at int64, id int, longs ...int) {
	t.Helper()
	for i, long := range longs {
		if b := hand(t, q, packet(id+i, bucket, long, at)); b != bucket {
			t.Errorf("Put of %d told %d, want %d", id+i, b, bucket)
		}
	}
}

// told is what was handed out, of which the Body is asked ahead, and is written over.
func told(t *testing.T, p api.Packet) string {
	t.Helper()
	if !bytes.Equal(p.Body, body(p.ID, len(p.Body))) || p.TID != p.ID%8 {
		t.Errorf("%d is handed out as %+v", p.ID, p)
	}
	if bytes.IndexByte(p.Body[len(p.Body):cap(p.Body)], spoil) >= 0 {
		t.Errorf("%d is handed out with what lay behind the Body that was put", p.ID)
	}
	write(p)
	return strconv.Itoa(p.ID)
}

// take is what a Take answers: what is dropped with a sign ahead, then what is taken; or a point.
func take(t *testing.T, q *Queue, now int64) string {
	t.Helper()
	p, dropped, is := q.Take(now)
	var s []string
	for _, d := range dropped {
		s = append(s, "-"+told(t, d))
	}
	if !is {
		if !nothing(p) {
			t.Errorf("beside false: %+v", p)
		}
		return strings.Join(append(s, "."), " ")
	}
	return strings.Join(append(s, told(t, p)), " ")
}

// mustTake fails unless Takes at one time answer what is wanted, one behind the other.
func mustTake(t *testing.T, q *Queue, now int64, wants ...string) {
	t.Helper()
	for i, want := range wants {
		if got := take(t, q, now); got != want {
			t.Errorf("Take %d at %d = %s, want %s", i+1, now, got, want)
		}
	}
}

// mustDrop fails unless DropHeads of a bucket answer what is wanted; 0: false.
func mustDrop(t *testing.T, q *Queue, bucket int, wants ...int) {
	t.Helper()
	for _, want := range wants {
		head, there := q.Head(bucket)
		p, is := q.DropHead(bucket)
		if !same(head, p) || there != is || is != (want > 0) || p.ID != want || !is && !nothing(p) {
			t.Errorf("Head(%d) = %+v, %v, DropHead = %+v, %v, want %d", bucket, head, there, p, is, want)
		}
		told(t, head)
		told(t, p)
	}
}

// mustHold fails unless just these packets are there, of so many bytes.
func mustHold(t *testing.T, q *Queue, long int, ids ...int) {
	t.Helper()
	var got []int
	for _, p := range q.All() {
		got = append(got, p.ID)
		told(t, p)
	}
	if !slices.Equal(got, ids) || q.Len() != len(ids) || q.Bytes() != long {
		t.Errorf("%v, %d, %d bytes, want %v, %d bytes", got, q.Len(), q.Bytes(), ids, long)
	}
}

// mustFattest fails unless Fattest is that.
func mustFattest(t *testing.T, q *Queue, bucket, long int) {
	t.Helper()
	if b, n := q.Fattest(); b != bucket || n != long {
		t.Errorf("Fattest() = %d, %d, want %d, %d", b, n, bucket, long)
	}
}

// mustBeEmpty fails unless nothing is there.
func mustBeEmpty(t *testing.T, q *Queue) {
	t.Helper()
	mustHold(t, q, 0)
	mustFattest(t, q, 0, 0)
	for b := -2; b < api.Buckets+2; b++ {
		mustDrop(t, q, b, 0)
	}
	if l := q.All(); len(l) != 0 {
		t.Errorf("All() = %v", l)
	}
}

// P13.1: New and Put.

func TestNewIsEmpty(t *testing.T) {
	for _, q := range []*Queue{New(0, 0, 0), New(seed, target, interval), New(math.MaxUint32, math.MinInt64, math.MaxInt64), New(seed, target, interval).Clone()} {
		mustBeEmpty(t, q)
		for _, now := range []int64{0, 0, 1, 5, api.MaxTime} {
			mustTake(t, q, now, ".")
		}
		mustBeEmpty(t, q)
	}
}

// TestEmptyAgain has a queue that was emptied, by Take and by DropHead.
func TestEmptyAgain(t *testing.T) {
	q := New(seed, target, interval)
	put(t, q, 5, 0, 1, 100, 100)
	mustTake(t, q, 0, "1", "2")
	mustBeEmpty(t, q)
	mustTake(t, q, 0, ".", ".")
	put(t, q, 5, 0, 3, 100)
	mustDrop(t, q, 5, 3, 0)
	mustBeEmpty(t, q)
	mustTake(t, q, 0, ".", ".")
	put(t, q, 5, 0, 4, 100)
	mustTake(t, q, 0, "4", ".")
	mustBeEmpty(t, q)
}

func TestPutTellsTheBucket(t *testing.T) {
	q := New(seed, target, interval)
	for b, two := range flows {
		for _, flow := range two {
			if got := q.Put(api.Packet{Flow: flow}); got != b {
				t.Errorf("Put of flow %d told %d, want %d", flow, got, b)
			}
		}
	}
	for _, s := range []uint32{0, 1, 9, 1 << 31, math.MaxUint32} {
		q := New(s, target, interval)
		for flow := range uint32(100) {
			flow *= 0x9e3779b9
			p := api.Packet{ID: 7, Flow: flow}
			want := hash.Bucket(flow, s)
			if b := q.Put(p); b != want || q.Len() != 1 {
				t.Errorf("seed %d: Put of flow %d told %d, want %d", s, flow, b, want)
			}
			if p, is := q.DropHead(want); !is || p.Flow != flow {
				t.Errorf("seed %d: flow %d is not in %d", s, flow, want)
			}
		}
	}
}

// TestTwoFlowsOfABucket: they stand as they came, and have one turn, one deficit and one CoDel.
func TestTwoFlowsOfABucket(t *testing.T) {
	q := New(seed, target, interval)
	for i, flow := range []uint32{1, 14, 14, 1, 7} {
		q.Put(api.Packet{ID: i + 1, Flow: flow, TID: i + 1, Body: body(i+1, 150)})
	}
	mustHold(t, q, 750, 1, 2, 3, 4, 5)
	mustFattest(t, q, 3, 600)
	mustTake(t, q, 0, "1", "2", "5", "3", "4", ".")
	// 2100 bytes of each flow leave few bytes behind the first one, 4200 of both don't.
	q = New(seed, target, interval)
	put(t, q, 3, 0, 1, 700, 700, 700, 700, 700, 700)
	mustTake(t, q, 200, "1")
	mustTake(t, q, 1200, "-2 3")
}

// TestPacketsStay: what comes out is what came in, whatever it is.
func TestPacketsStay(t *testing.T) {
	l := []api.Packet{
		{ID: 1, Flow: 3, TID: 7, At: 5, Body: []byte("body")},
		{ID: -1, Flow: 1, TID: -1, At: -1},
		{ID: math.MaxInt, Flow: 7, TID: math.MaxInt, At: math.MaxInt64, Body: []byte{}},
		{ID: math.MinInt, Flow: 41, TID: math.MinInt, At: math.MinInt64, Body: make([]byte, 5000)},
	}
	ways := []func(*Queue, int) (api.Packet, bool){
		func(q *Queue, _ int) (api.Packet, bool) { p, _, is := q.Take(5); return p, is },
		func(q *Queue, b int) (api.Packet, bool) { return q.Head(b) },
		func(q *Queue, b int) (api.Packet, bool) { return q.DropHead(b) },
		func(q *Queue, _ int) (api.Packet, bool) { return q.All()[0], q.Len() == 1 },
		func(q *Queue, b int) (api.Packet, bool) { return q.Clone().Head(b) },
	}
	for _, p := range l {
		for i, way := range ways {
			q := New(seed, target, interval)
			if got, is := way(q, q.Put(p)); !is || !same(got, p) {
				t.Errorf("way %d: %+v, %v, want %+v", i, got, is, p)
			}
		}
	}
}

// TestNewOnes: a flow in neither list is the last of the new ones, with a Quantum.
func TestNewOnes(t *testing.T) {
	q := New(seed, target, interval)
	put(t, q, 9, 0, 1, 10)
	put(t, q, 3, 0, 2, 10)
	put(t, q, 15, 0, 3, 10)
	put(t, q, 0, 0, 4, 10)
	put(t, q, 9, 0, 5, 10)
	mustTake(t, q, 0, "1", "5", "2", "3", "4", ".")
	// What was left of the first time's deficit is gone: 290 bytes would be all.
	put(t, q, 0, 0, 11, 299, 1, 1)
	put(t, q, 9, 0, 14, 299, 1, 1)
	mustTake(t, q, 0, "11", "12", "14", "15", "13", "16", ".")
}

// TestAllBuckets has every flow in the lists, forwards and backwards.
func TestAllBuckets(t *testing.T) {
	up, down := New(seed, target, interval), New(seed, target, interval)
	var first, second, back, again []string
	for i := range api.Buckets {
		put(t, up, i, 0, 2*i+1, 300, 1)
		first, second = append(first, strconv.Itoa(2*i+1)), append(second, strconv.Itoa(2*i+2))
		put(t, down, api.Buckets-1-i, 0, 2*i+101, 301, 1)
		back, again = append(back, strconv.Itoa(2*i+101)), append(again, strconv.Itoa(2*i+102))
	}
	mustTake(t, up, 0, append(append(first, second...), ".")...)
	mustTake(t, down, 0, append(append(back, again...), ".")...)
}

// TestPutIntoNew: one of the new ones keeps its place and its deficit.
func TestPutIntoNew(t *testing.T) {
	q := New(seed, target, interval)
	put(t, q, 3, 0, 1, 100)
	put(t, q, 7, 0, 11, 100)
	put(t, q, 3, 0, 2, 100)
	mustTake(t, q, 0, "1")
	put(t, q, 3, 0, 3, 100, 100)
	mustTake(t, q, 0, "2", "3", "11", "4", ".")
}

// TestPutIntoElder: one of the elder ones keeps its place and its deficit.
func TestPutIntoElder(t *testing.T) {
	q := New(seed, target, interval)
	put(t, q, 3, 0, 1, 300, 299)
	put(t, q, 7, 0, 11, 10)
	// The first flow is the first of the elder ones then, with a Quantum.
	mustTake(t, q, 0, "1", "11")
	put(t, q, 3, 0, 3, 1, 1)
	put(t, q, 1, 0, 21, 10)
	mustTake(t, q, 0, "21", "2", "3", "4", ".")
	q = New(seed, target, interval)
	put(t, q, 3, 0, 1, 300, 10)
	put(t, q, 7, 0, 11, 400, 10)
	put(t, q, 1, 0, 21, 200)
	mustTake(t, q, 0, "1", "11", "21")
	// The first has 290 left, the second had 200 ahead of its next one.
	mustTake(t, q, 0, "2")
	put(t, q, 7, 0, 13, 190, 10)
	put(t, q, 3, 0, 3, 290, 10)
	mustTake(t, q, 0, "3", "12", "13", "4", "14", ".")
}

// TestPutIntoEmptied: DropHead leaves an emptied flow where it is in its list, with its deficit.
func TestPutIntoEmptied(t *testing.T) {
	q := New(seed, target, interval)
	put(t, q, 3, 0, 1, 250, 100)
	put(t, q, 7, 0, 11, 10)
	mustTake(t, q, 0, "1")
	mustDrop(t, q, 3, 2, 0)
	put(t, q, 3, 0, 3, 100, 100)
	mustTake(t, q, 0, "3", "11", "4", ".")
	// Of the elder ones: the first of them, with 200 of its Quantum.
	q = New(seed, target, interval)
	put(t, q, 3, 0, 1, 400, 100)
	put(t, q, 7, 0, 11, 300, 10)
	put(t, q, 1, 0, 21, 10)
	mustTake(t, q, 0, "1", "11", "21")
	mustDrop(t, q, 3, 2, 0)
	put(t, q, 3, 0, 3, 200, 10)
	put(t, q, 15, 0, 31, 10)
	mustTake(t, q, 0, "31", "3", "12", "4", ".")
}

// P13.2: whose turn it is.

// TestTurns has three flows, whose deficits come to 0, to 0, and to less than they had.
func TestTurns(t *testing.T) {
	q := New(seed, target, interval)
	put(t, q, 3, 0, 1, 150, 150, 150, 150)
	put(t, q, 7, 0, 5, 300, 300)
	put(t, q, 1, 0, 7, 299, 1, 1)
	mustHold(t, q, 1501, 7, 8, 9, 1, 2, 3, 4, 5, 6)
	mustTake(t, q, 0, "1", "2", "5", "7", "8")
	mustHold(t, q, 601, 9, 3, 4, 6)
	mustTake(t, q, 0, "3", "4", "6", "9", ".")
	mustBeEmpty(t, q)
}

// TestAgainAndAgain puts and takes by turns.
func TestAgainAndAgain(t *testing.T) {
	q := New(seed, target, interval)
	put(t, q, 3, 0, 1, 200, 200, 200)
	mustTake(t, q, 0, "1")
	put(t, q, 7, 0, 11, 500, 100)
	mustTake(t, q, 1, "2", "11")
	// Both are elder ones, with 200 and with 100; the first is ahead.
	put(t, q, 1, 2, 21, 100)
	mustTake(t, q, 2, "21", "3")
	put(t, q, 3, 3, 4, 100, 100)
	// Bucket 1 has come behind both, with 200 left.
	put(t, q, 1, 3, 22, 200, 10)
	mustTake(t, q, 3, "12", "22", "4", "5", "23", ".")
}

// TestDeficit has a flow whose second packet waits till its deficit is above 0: how many turns of another one, of
// a Quantum each, come ahead.
func TestDeficit(t *testing.T) {
	for long, turns := range map[int]int{
		0: 0, 1: 0, 298: 0, 299: 0, 300: 1, 301: 1, 598: 1, 599: 1, 600: 2, 601: 2, 899: 2, 900: 3,
		1199: 3, 1200: 4, 1499: 4, 1500: 5, 1501: 5, 6000: 20, 1 << 16: 218, 1<<16 + 163: 218, 1<<16 + 164: 219,
	} {
		var others []string
		quanta := slices.Repeat([]int{300}, turns+1)
		for i := range turns {
			others = append(others, strconv.Itoa(11+i))
		}
		// Of a new one.
		q := New(seed, 1<<30, interval)
		put(t, q, 3, 0, 1, long, 10)
		put(t, q, 7, 0, 11, quanta...)
		mustTake(t, q, 0, append(append([]string{"1"}, others...), "2")...)
		// Of an elder one, whose deficit was a Quantum ahead of it.
		q = New(seed, 1<<30, interval)
		put(t, q, 3, 0, 1, 300, long, 10)
		put(t, q, 7, 0, 10, 300)
		put(t, q, 7, 0, 11, quanta...)
		mustTake(t, q, 0, append(append([]string{"1", "10", "2"}, others...), "3")...)
	}
}

// TestDeficitAlone: a flow alone has all turns, however long its packets are.
func TestDeficitAlone(t *testing.T) {
	for _, long := range []int{0, 1, 299, 300, 301, 1500, 1 << 16, 1 << 22} {
		q := New(seed, 1<<30, interval)
		put(t, q, 3, 0, 1, long, long, long)
		mustTake(t, q, 0, "1", "2", "3", ".")
		put(t, q, 3, 0, 4, long)
		put(t, q, 7, 0, 5, 10)
		mustTake(t, q, 0, "4", "5", ".")
	}
}

// TestDeficitStays: of what is left over, nothing is lost in a turn.
func TestDeficitStays(t *testing.T) {
	q := New(seed, target, interval)
	put(t, q, 3, 0, 1, slices.Repeat([]int{200}, 9)...)
	put(t, q, 7, 0, 11, slices.Repeat([]int{300}, 6)...)
	// 300, 100, -100; 200, 0; 300, 100, -100 ..
	mustTake(t, q, 0, "1", "2", "11", "3", "12", "4", "5", "13", "6", "14", "7", "8", "15", "9", "16", ".")
}

// TestNoBytes: packets without bytes cost nothing, and end all the same.
func TestNoBytes(t *testing.T) {
	q := New(seed, 0, 0)
	put(t, q, 3, 0, 1, 0, 0, 299, 0, 0, 1, 0)
	put(t, q, 7, 0, 11, 0, 0)
	mustTake(t, q, 5, "1", "2", "3", "4", "5", "6", "11", "12", "7", ".")
}

// TestNewAheadOfElder: while there are new ones, no elder one has a turn.
func TestNewAheadOfElder(t *testing.T) {
	q := New(seed, target, interval)
	put(t, q, 3, 0, 1, 300, 10)
	put(t, q, 7, 0, 11, 10)
	mustTake(t, q, 0, "1", "11")
	for i := range 8 {
		put(t, q, 15-i, 0, 21+i, 10)
		mustTake(t, q, 0, strconv.Itoa(21+i))
	}
	mustTake(t, q, 0, "2", ".")
}

// TestEmptyNewWithElder: a new flow in which nothing is becomes the last of the elder ones, if there are any.
func TestEmptyNewWithElder(t *testing.T) {
	q := New(seed, target, interval)
	put(t, q, 3, 0, 1, 300, 100, 300)
	put(t, q, 7, 0, 11, 10)
	mustTake(t, q, 0, "1", "11", "2")
	// It is no new one, and has 290 left; one that comes behind it is.
	put(t, q, 7, 0, 12, 290, 10)
	put(t, q, 1, 0, 21, 10)
	mustTake(t, q, 0, "21", "3", "12", "13", ".")
	// Emptied by DropHead, too.
	q = New(seed, target, interval)
	put(t, q, 3, 0, 1, 300, 100, 300)
	put(t, q, 7, 0, 11, 10)
	mustTake(t, q, 0, "1")
	mustDrop(t, q, 7, 11)
	mustTake(t, q, 0, "2")
	put(t, q, 7, 0, 12, 300, 10)
	put(t, q, 1, 0, 21, 10)
	mustTake(t, q, 0, "21", "3", "12", "13", ".")
}

// TestEmptyNewWithoutElder: a new flow in which nothing is leaves its list, if there are no elder ones.
func TestEmptyNewWithoutElder(t *testing.T) {
	q := New(seed, target, interval)
	put(t, q, 3, 0, 1, 250)
	mustTake(t, q, 0, "1", ".")
	// It is a new one again, ahead of one that comes behind it, and has all of a Quantum.
	put(t, q, 3, 0, 2, 100, 100, 100, 10)
	put(t, q, 7, 0, 11, 10)
	mustTake(t, q, 0, "2", "3", "4", "11", "5", ".")
	// With a new one behind it: there is no elder one.
	put(t, q, 3, 0, 6, 250)
	put(t, q, 7, 0, 12, 100)
	mustTake(t, q, 0, "6", "12")
	put(t, q, 3, 0, 7, 60, 240, 10)
	put(t, q, 1, 0, 41, 10)
	put(t, q, 7, 0, 13, 200, 10)
	mustTake(t, q, 0, "13", "7", "8", "41", "14", "9", ".")
	// Emptied by DropHead, alone.
	put(t, q, 3, 0, 20, 250, 10)
	mustTake(t, q, 0, "20")
	mustDrop(t, q, 3, 21)
	mustTake(t, q, 0, ".")
	put(t, q, 3, 0, 22, 299, 1, 10)
	put(t, q, 7, 0, 30, 10)
	mustTake(t, q, 0, "22", "23", "30", "24", ".")
}

// TestEmptyElder: an elder flow in which nothing is leaves its list, whatever else is there.
func TestEmptyElder(t *testing.T) {
	q := New(seed, target, interval)
	put(t, q, 3, 0, 1, 300, 10)
	put(t, q, 7, 0, 11, 300, 10, 300, 10)
	mustTake(t, q, 0, "1", "11", "2", "12")
	// The first one is in no list: it is new again, ahead, and has all of a Quantum.
	put(t, q, 3, 0, 3, 200, 100, 10)
	mustTake(t, q, 0, "3", "4", "13", "5", "14", ".")
	// Emptied by DropHead, with a deficit of 0 and below ahead of it.
	q = New(seed, target, interval)
	put(t, q, 3, 0, 1, 900, 10)
	put(t, q, 7, 0, 11, 300, 300, 300, 10)
	mustTake(t, q, 0, "1", "11")
	mustDrop(t, q, 3, 2)
	// -300 and 0: two turns more till it is asked.
	mustTake(t, q, 0, "12")
	put(t, q, 3, 0, 3, 10)
	mustTake(t, q, 0, "13", "3", "14", ".")
}

// TestEmptyAll: flows that are all emptied by DropHead, new and elder ones, leave their lists at one Take.
func TestEmptyAll(t *testing.T) {
	q := New(seed, target, interval)
	put(t, q, 3, 0, 1, 5000, 10)
	put(t, q, 7, 0, 11, 100, 10)
	put(t, q, 1, 0, 21, 10)
	mustTake(t, q, 0, "1", "11")
	for b, id := range map[int]int{3: 2, 7: 12, 1: 21} {
		mustDrop(t, q, b, id)
	}
	mustTake(t, q, 0, ".", ".")
	put(t, q, 1, 0, 22, 300, 10)
	put(t, q, 7, 0, 13, 300, 10)
	put(t, q, 3, 0, 3, 300, 10)
	mustTake(t, q, 0, "22", "13", "3", "23", "14", "4", ".")
}

// P13.2: what CoDel drops.

// TestDrops has a flow that waits too long, for one packet, then for the next ones sooner.
func TestDrops(t *testing.T) {
	q := New(seed, target, interval)
	put(t, q, 3, 0, 1, slices.Repeat([]int{1000}, 12)...)
	mustTake(t, q, 200, "1")
	mustTake(t, q, 1200, "-2 3")
	mustHold(t, q, 9000, 4, 5, 6, 7, 8, 9, 10, 11, 12)
	mustTake(t, q, 2200, "-4 5")
	mustTake(t, q, 2906, "6")
	mustTake(t, q, 2907, "-7 8")
	mustHold(t, q, 4000, 9, 10, 11, 12)
	// Two are due, but behind the second one there are few bytes.
	mustTake(t, q, 4000, "-9 -10 11")
	mustHold(t, q, 1000, 12)
	mustTake(t, q, 9999, "12", ".")
	mustBeEmpty(t, q)
}

// TestDropsMany: several are dropped at once, in order, with bodies of their own.
func TestDropsMany(t *testing.T) {
	q := New(seed, target, interval)
	put(t, q, 3, 0, 1, slices.Repeat([]int{1000}, 12)...)
	mustTake(t, q, 200, "1")
	mustTake(t, q, 1200, "-2 3")
	mustTake(t, q, 3500, "-4 -5 -6 7")
	mustHold(t, q, 5000, 8, 9, 10, 11, 12)
	mustTake(t, q, 1<<40, "-8 -9 -10 11", "12", ".")
}

// TestDropsCostNothing: what is dropped is not less of a deficit.
func TestDropsCostNothing(t *testing.T) {
	// With an interval of 0 the second Take begins to drop, and the third drops all that have more than few bytes behind.
	q := New(seed, target, 0)
	put(t, q, 3, 0, 1, 10, 2000, 10, 2000, 2000, 1000, 279, 1000, 514)
	put(t, q, 7, 0, 11, 10)
	mustTake(t, q, 200, "1", "-2 3", "-4 -5 -6 7", "8", "11", "9", ".")
}

// TestDropsOwnBytes: what counts as waiting behind a packet is what its own flow has.
func TestDropsOwnBytes(t *testing.T) {
	for _, longs := range [][]int{{700, 1514, 0}, {700, 757, 757, 0}} {
		q := New(seed, target, 0)
		for b := range api.Buckets {
			put(t, q, b, 0, 10*b+1, longs...)
		}
		for range api.Buckets * len(longs) {
			if got := take(t, q, 1000); strings.Contains(got, "-") {
				t.Fatalf("dropped: %s", got)
			}
		}
	}
}

// TestDropsBytesGone: what is gone by Take, by DropHead, by CoDel is bytes no more.
func TestDropsBytesGone(t *testing.T) {
	for last, wants := range map[int][3][]string{
		757: {{"1", "2", "3", "4", "."}, {"2", "3", "4", "5", "."}, {"1", "-2 3", "4", "5", "6", "."}},
		758: {{"1", "-2 3", "4", "."}, {"2", "-3 4", "5", "."}, {"1", "-2 3", "-4 5", "6", "."}},
	} {
		q := New(seed, target, 0)
		put(t, q, 3, 0, 1, 3000, 10, 757, last)
		mustTake(t, q, 200, wants[0]...)
		q = New(seed, target, 0)
		put(t, q, 3, 0, 1, 3000, 3000, 10, 757, last)
		mustDrop(t, q, 3, 1)
		mustTake(t, q, 200, wants[1]...)
		q = New(seed, target, 0)
		put(t, q, 3, 0, 1, 3000, 3000, 10, 10, 757, last)
		mustTake(t, q, 200, wants[2]...)
	}
}

// TestDropsByTime: target and interval are held against when a packet came and what is now.
func TestDropsByTime(t *testing.T) {
	for at, first := range map[int64]int64{0: 100, 7: 107, 1 << 40: 1<<40 + 100} {
		q := New(seed, target, interval)
		put(t, q, 3, at, 1, slices.Repeat([]int{1000}, 9)...)
		mustTake(t, q, first-1, "1")
		mustTake(t, q, first, "2")
		mustTake(t, q, first+999, "3")
		mustTake(t, q, first+1000, "-4 5")
		q = New(seed, target, interval)
		put(t, q, 3, at, 1, slices.Repeat([]int{1000}, 9)...)
		mustTake(t, q, first-1, "1")
		mustTake(t, q, first+1000-1, "2")
		mustTake(t, q, first+1000, "3")
	}
	// Both are cut: 0 at least, 2^30 at most.
	q := New(seed, -5, -5)
	put(t, q, 3, 8, 1, slices.Repeat([]int{1000}, 9)...)
	mustTake(t, q, 8, "1", "-2 3", "-4 -5 -6 -7 8", "9", ".")
	q = New(seed, math.MaxInt64, math.MaxInt64)
	put(t, q, 3, 8, 1, slices.Repeat([]int{1000}, 9)...)
	mustTake(t, q, 8+1<<30-1, "1")
	mustTake(t, q, 8+1<<30, "2")
	mustTake(t, q, 8+1<<31-1, "3")
	mustTake(t, q, 8+1<<31, "-4 5")
}

// TestDropsByFlow: each flow has a CoDel of its own.
func TestDropsByFlow(t *testing.T) {
	q := New(seed, target, interval)
	put(t, q, 3, 0, 1, slices.Repeat([]int{300}, 30)...)
	put(t, q, 7, 900, 51, slices.Repeat([]int{300}, 30)...)
	put(t, q, 1, 0, 91, 300, 300, 300)
	mustTake(t, q, 150, "1", "51", "91")
	mustTake(t, q, 1000, "2", "52", "92")
	mustTake(t, q, 1150, "-3 4", "53", "93")
	mustTake(t, q, 2000, "5", "-54 55")
	mustTake(t, q, 2150, "-6 7", "56")
	mustTake(t, q, 3000, "-8 9", "-57 58")
}

// TestLookAtNothing: a flow in which nothing is forgets since when its packets wait too long.
func TestLookAtNothing(t *testing.T) {
	q := New(seed, target, interval)
	put(t, q, 3, 0, 1, slices.Repeat([]int{1000}, 4)...)
	mustTake(t, q, 200, "1")
	mustDrop(t, q, 3, 2, 3, 4)
	c := q.Clone()
	mustTake(t, q, 1200, ".")
	for _, x := range []*Queue{q, c} {
		put(t, x, 3, 0, 11, slices.Repeat([]int{1000}, 8)...)
	}
	mustTake(t, q, 1200, "11")
	mustTake(t, q, 2199, "12")
	mustTake(t, q, 2200, "-13 14")
	// DropHead alone forgets nothing.
	mustTake(t, c, 1200, "-11 12")
}

// TestCodelStays: a flow that left the lists remembers how often it dropped.
func TestCodelStays(t *testing.T) {
	q := New(seed, target, interval)
	put(t, q, 3, 0, 1, slices.Repeat([]int{1000}, 12)...)
	mustTake(t, q, 200, "1")
	mustTake(t, q, 1200, "-2 3")
	mustTake(t, q, 2200, "-4 5")
	mustTake(t, q, 2907, "-6 7")
	mustTake(t, q, 3484, "-8 9")
	mustTake(t, q, 3500, "10", "11", "12", ".")
	put(t, q, 3, 3500, 13, slices.Repeat([]int{1000}, 12)...)
	mustTake(t, q, 3600, "13")
	mustTake(t, q, 4600, "-14 15")
	// It began with a count of 3: 577 behind.
	mustTake(t, q, 5176, "16")
	mustTake(t, q, 5177, "-17 18")
}

// late makes a bucket's flow one whose next packet is dropped, and has CoDel told of bytes that are not there. By Put
// and Take alone one is always there behind those that CoDel drops, for it leaves what has few bytes behind it.
func late(q *Queue, bucket int) {
	q.flows[bucket].codel.First = 1
	q.flows[bucket].bytes += 1 << 20
}

// TestDropsOfMoreFlows: what was dropped of several flows is told, in order, with one that is taken at the end and
// with none.
func TestDropsOfMoreFlows(t *testing.T) {
	for _, end := range []string{"31", "."} {
		q := New(seed, target, interval)
		put(t, q, 7, 0, 11, 10)
		put(t, q, 3, 0, 1, 10)
		put(t, q, 15, 0, 21, 10)
		if end != "." {
			put(t, q, 1, 0, 31, 10)
		}
		late(q, 3)
		late(q, 7)
		late(q, 15)
		mustTake(t, q, 500, "-11 -1 -21 "+end, ".")
	}
	// Dropping goes on: two of each, of new ones and of elder ones.
	q := New(seed, target, 0)
	put(t, q, 7, 0, 11, 10, 300, 10)
	put(t, q, 3, 0, 1, 10, 300, 10)
	late(q, 7)
	late(q, 3)
	mustTake(t, q, 500, "-11 12", "-1 2", "-13 -3 .", ".")
}

// P13.2: what was dropped of more than one flow, one Take behind the other, and none at the end.
func TestDropsTillNothing(t *testing.T) {
	q := New(seed, target, 0)
	put(t, q, 3, 0, 1, 10, 1000, 600, 914)
	put(t, q, 7, 0, 11, 10, 1000, 1000, 514, 400, 600)
	mustTake(t, q, 500, "1", "2", "11", "-12 13", "3", "14", "4", "15", "16", ".", ".")
	mustBeEmpty(t, q)
}

// P13.3: Head and DropHead.

func TestHeads(t *testing.T) {
	for _, bucket := range []int{0, 1, 8, 14, 15} {
		q := New(seed, target, interval)
		for b := range api.Buckets {
			if b != bucket {
				put(t, q, b, 0, 10*b+100, 10)
			}
		}
		mustDrop(t, q, bucket, 0, 0)
		put(t, q, bucket, 0, 1, 10, 20, 0, 5)
		for range 3 {
			if p, is := q.Head(bucket); !is || p.ID != 1 || len(p.Body) != 10 {
				t.Errorf("Head(%d) = %+v, %v", bucket, p, is)
			}
		}
		mustDrop(t, q, bucket, 1)
		if q.Len() != 18 || q.Bytes() != 175 {
			t.Errorf("%d, %d bytes", q.Len(), q.Bytes())
		}
		mustDrop(t, q, bucket, 2, 3, 4, 0, 0)
		if q.Len() != 15 || q.Bytes() != 150 {
			t.Errorf("%d, %d bytes", q.Len(), q.Bytes())
		}
	}
}

func TestHeadsOfNone(t *testing.T) {
	q := New(seed, target, interval)
	for range 2 {
		for _, b := range none {
			mustDrop(t, q, b, 0)
		}
		for b := range api.Buckets {
			put(t, q, b, 0, b+1, 10, 10)
		}
	}
	if q.Len() != 64 || q.Bytes() != 640 {
		t.Errorf("%d, %d bytes", q.Len(), q.Bytes())
	}
}

// TestDropHeadIsNoTurn: what is dropped costs no deficit.
func TestDropHeadIsNoTurn(t *testing.T) {
	q := New(seed, target, interval)
	put(t, q, 3, 0, 1, 5000, 299, 1, 10)
	put(t, q, 7, 0, 11, 10)
	mustDrop(t, q, 3, 1)
	mustTake(t, q, 0, "2", "3", "11", "4", ".")
}

// P13.3: Fattest.

func TestFattest(t *testing.T) {
	q := New(seed, target, interval)
	put(t, q, 9, 0, 1, 0)
	mustFattest(t, q, 9, 0)
	// Of as many bytes the least: of none at all, too.
	put(t, q, 12, 0, 2, 0, 0)
	mustFattest(t, q, 9, 0)
	put(t, q, 4, 0, 4, 0)
	mustFattest(t, q, 4, 0)
	put(t, q, 12, 0, 5, 1)
	mustFattest(t, q, 12, 1)
	put(t, q, 15, 0, 6, 1)
	mustFattest(t, q, 12, 1)
	put(t, q, 9, 0, 7, 1)
	mustFattest(t, q, 9, 1)
	put(t, q, 15, 0, 8, 1)
	mustFattest(t, q, 15, 2)
	// All of a bucket counts, not its longest packet, nor how many there are.
	put(t, q, 0, 0, 9, 1, 1, 0, 0)
	mustFattest(t, q, 0, 2)
	put(t, q, 9, 0, 13, 1500)
	mustFattest(t, q, 9, 1501)
	put(t, q, 4, 0, 14, 800, 800)
	mustFattest(t, q, 4, 1600)
	mustDrop(t, q, 4, 4, 14)
	mustFattest(t, q, 9, 1501)
	// 9 is the first of the new ones: its packets without bytes, and then the others, are taken.
	mustTake(t, q, 0, "1", "7", "13")
	mustFattest(t, q, 4, 800)
	mustDrop(t, q, 4, 15, 0)
	mustFattest(t, q, 0, 2)
	mustDrop(t, q, 0, 9, 10)
	mustFattest(t, q, 15, 2)
	mustDrop(t, q, 0, 11, 12)
	mustDrop(t, q, 15, 6, 8)
	mustFattest(t, q, 12, 1)
	mustDrop(t, q, 12, 2, 3)
	mustFattest(t, q, 12, 1)
	mustDrop(t, q, 12, 5)
	mustFattest(t, q, 0, 0)
	mustBeEmpty(t, q)
}

// TestFattestOfEach: each bucket may be it, alone, as the first of all that have as many, and as the last with more.
func TestFattestOfEach(t *testing.T) {
	for b := range api.Buckets {
		q := New(seed, target, interval)
		put(t, q, b, 0, 1, 5)
		mustFattest(t, q, b, 5)
		for other := range api.Buckets - b {
			put(t, q, other+b, 0, 2, 5)
		}
		mustFattest(t, q, b, 10)
		for other := range api.Buckets {
			put(t, q, other, 0, 2, 10)
		}
		mustFattest(t, q, b, 20)
	}
}

// P13.3: Len, Bytes, All.

func TestAll(t *testing.T) {
	q := New(seed, target, interval)
	put(t, q, 15, 0, 1, 10)
	put(t, q, 0, 0, 2, 20)
	put(t, q, 7, 0, 3, 0)
	put(t, q, 15, 0, 4, 30)
	put(t, q, 7, 0, 5, 5)
	put(t, q, 0, 0, 6, 0)
	mustHold(t, q, 65, 2, 6, 3, 5, 1, 4)
	mustHold(t, q, 65, 2, 6, 3, 5, 1, 4)
	mustTake(t, q, 0, "1")
	mustHold(t, q, 55, 2, 6, 3, 5, 4)
	mustDrop(t, q, 7, 3)
	mustHold(t, q, 55, 2, 6, 5, 4)
	put(t, q, 7, 0, 7, 1)
	mustHold(t, q, 56, 2, 6, 5, 7, 4)
	mustTake(t, q, 0, "4", "2", "6")
	mustHold(t, q, 6, 5, 7)
}

// TestMany has one flow of very many packets.
func TestMany(t *testing.T) {
	const many = 50000
	q := New(seed, 1<<30, interval)
	for i := range many {
		q.Put(api.Packet{ID: i + 1, Flow: 1, Body: []byte{byte(i)}})
	}
	if q.Len() != many || q.Bytes() != many || len(q.All()) != many {
		t.Errorf("%d, %d bytes, %d", q.Len(), q.Bytes(), len(q.All()))
	}
	mustFattest(t, q, 3, many)
	for i := range many {
		if p, l, is := q.Take(0); p.ID != i+1 || len(l) > 0 || !is || len(p.Body) != 1 || p.Body[0] != byte(i) {
			t.Fatalf("%d: %+v, %v, %v", i+1, p, l, is)
		}
	}
	mustTake(t, q, 0, ".")
	mustBeEmpty(t, q)
}

// Memory.

// TestBodies: each Body handed in and out is its own memory. (The other tests write into all of them, too.)
func TestBodies(t *testing.T) {
	q := New(seed, target, interval)
	in := []byte("first")
	q.Put(api.Packet{ID: 1, Flow: 1, Body: in})
	q.Put(api.Packet{ID: 2, Flow: 1, Body: in[1:3]})
	q.Put(api.Packet{ID: 3, Flow: 1, Body: in})
	copy(in, "xxxxx")
	c := q.Clone()
	for range 2 {
		head, _ := q.Head(3)
		all := q.All()
		for _, p := range append(all, head) {
			write(p)
		}
		q.Head(3)
	}
	p, _, _ := q.Take(0)
	write(p)
	p, _ = q.DropHead(3)
	write(p)
	p, _, _ = q.Take(0)
	if string(p.Body) != "first" {
		t.Errorf("%q", p.Body)
	}
	write(p)
	for i, want := range []string{"first", "ir", "first"} {
		if p := c.All()[i]; string(p.Body) != want {
			t.Errorf("the copy's %d is %q", i+1, p.Body)
		}
	}
	for _, want := range []string{"first", "ir", "first"} {
		if p, _, is := c.Take(0); !is || string(p.Body) != want {
			t.Errorf("of the copy %q, want %q", p.Body, want)
		}
	}
}

// TestNoBody: a Body of nothing, nil or not, with memory behind it or not.
func TestNoBody(t *testing.T) {
	memory := []byte("behind")
	for _, none := range [][]byte{nil, {}, memory[:0], memory[3:3]} {
		q := New(seed, target, interval)
		q.Put(api.Packet{ID: 1, Flow: 1, Body: none})
		head, _ := q.Head(3)
		all := q.All()
		p, _, is := q.Take(0)
		for _, x := range []api.Packet{head, all[0], p} {
			if !is || x.ID != 1 || len(x.Body) != 0 {
				t.Errorf("%+v, %v", x, is)
			}
			write(x)
		}
	}
	if string(memory) != "behind" {
		t.Errorf("%q", memory)
	}
}

// TestListsAreNew: what is written into a list, or appended to it, no other one shows.
func TestListsAreNew(t *testing.T) {
	q := New(seed, 0, 0)
	put(t, q, 3, 0, 1, slices.Repeat([]int{1000}, 12)...)
	one, two := q.All(), q.All()
	clear(one[:cap(one)])
	for i, p := range two {
		if p.ID != i+1 {
			t.Errorf("%d is %d", i+1, p.ID)
		}
	}
	mustTake(t, q, 1, "1", "-2 3")
	_, l, _ := q.Take(1)
	c := q.Clone()
	if len(l) != 7 {
		t.Fatalf("%d dropped", len(l))
	}
	clear(l[:cap(l)])
	mustHold(t, q, 1000, 12)
	mustHold(t, c, 1000, 12)
	put(t, q, 3, 0, 13, 1)
	put(t, c, 3, 0, 23, 2)
	mustHold(t, q, 1001, 12, 13)
	mustHold(t, c, 1002, 12, 23)
}

// P13.3: Clone.

// TestClone: a copy goes its own way, and so does the queue that was copied.
func TestClone(t *testing.T) {
	q := New(seed, target, interval)
	put(t, q, 3, 0, 1, 300, 200, 100)
	put(t, q, 7, 0, 11, 10, 10)
	put(t, q, 1, 0, 21, 10)
	mustTake(t, q, 0, "1", "11")
	c := q.Clone()
	d := c.Clone()
	mustTake(t, q, 0, "12", "21", "2", "3", ".")
	mustHold(t, c, 320, 21, 2, 3, 12)
	put(t, q, 15, 0, 31, 10)
	put(t, c, 15, 0, 41, 10)
	put(t, c, 3, 0, 4, 1)
	put(t, c, 0, 0, 51, 10)
	mustTake(t, c, 0, "12", "21", "41", "51", "2", "3", "4", ".")
	mustTake(t, q, 0, "31", ".")
	mustDrop(t, d, 3, 2)
	mustHold(t, d, 120, 21, 3, 12)
	mustTake(t, d, 0, "12", "21", "3", ".")
	mustBeEmpty(t, q)
	mustBeEmpty(t, c)
	mustBeEmpty(t, d)
}

// TestCloneOfTurns: a copy has both lists as they were, and what is left of each deficit.
func TestCloneOfTurns(t *testing.T) {
	q := New(seed, target, interval)
	put(t, q, 3, 0, 1, 350, 100, 10)
	put(t, q, 7, 0, 11, 300, 300, 10)
	put(t, q, 15, 0, 21, 300, 10)
	put(t, q, 1, 0, 31, 200, 100, 10)
	put(t, q, 0, 0, 41, 10)
	mustTake(t, q, 0, "1", "11", "21", "31")
	// The elder ones are 3 with 250, 7 and 15 with 300; the new ones 1 with 100 and 0 with 300.
	for _, c := range []*Queue{q, q.Clone(), q.Clone().Clone()} {
		mustTake(t, c, 0, "32", "41", "2")
		put(t, c, 3, 0, 4, 140, 10)
		mustTake(t, c, 0, "3", "4", "12", "22")
		put(t, c, 8, 0, 51, 10)
		mustTake(t, c, 0, "51", "33", "5", "13", ".")
	}
	// Elder ones alone: 3 with 290 left, then 7 with 300.
	q = New(seed, target, interval)
	put(t, q, 3, 0, 1, 300, 10, 290, 10)
	put(t, q, 7, 0, 11, 300, 300, 10)
	mustTake(t, q, 0, "1", "11", "2")
	copies := []*Queue{q, q.Clone()}
	for _, c := range copies {
		mustTake(t, c, 0, "3", "12")
	}
	for _, c := range copies {
		mustTake(t, c, 0, "4", "13", ".")
	}
}

// TestCloneOfWaiting: what a queue and its copy get behind what both have is told CoDel of each by itself.
func TestCloneOfWaiting(t *testing.T) {
	for n := range 12 {
		for _, swap := range []bool{false, true} {
			longs := slices.Repeat([]int{1000}, n)
			alone, q := New(seed, target, 0), New(seed, target, 0)
			put(t, alone, 3, 0, 1, longs...)
			put(t, q, 3, 0, 1, longs...)
			a, b := q, q.Clone()
			if swap {
				a, b = b, a
			}
			put(t, a, 3, 0, 51, 1000, 1000, 1000, 1000, 1000)
			put(t, b, 3, 9000, 51, 0, 0, 0, 0, 0)
			put(t, alone, 3, 0, 51, 1000, 1000, 1000, 1000, 1000)
			mustTake(t, a, 500, take(t, alone, 500), take(t, alone, 500), take(t, alone, 500), take(t, alone, 500), ".")
			mustBeEmpty(t, a)
		}
	}
}

// TestCloneOfEmpty: a copy of an empty queue is one, with its seed, target and interval.
func TestCloneOfEmpty(t *testing.T) {
	q := New(seed, target, interval)
	c := q.Clone()
	put(t, c, 3, 0, 1, slices.Repeat([]int{1000}, 8)...)
	mustBeEmpty(t, q)
	mustTake(t, c.Clone(), 99, "1")
	mustTake(t, c, 99, "1")
	mustTake(t, c.Clone(), 1150, "2")
	mustTake(t, c, 200, "2")
	mustBeEmpty(t, q)
	mustTake(t, c.Clone(), 1199, "3")
	mustTake(t, c.Clone(), 1200, "-3 4")
	mustTake(t, c, 1200, "-3 4")
	mustTake(t, c.Clone(), 2199, "5")
	mustTake(t, c.Clone(), 2200, "-5 6")
	mustTake(t, c, 2200, "-5 6")
}

// P13.1 to P13.3: against what the chapter words.

// rival is a queue as the chapter words it: all packets stand in one list, as they were put, and each flow knows in
// which list it is, and since when.
type rival struct {
	seed             uint32
	target, interval int64
	packets          []api.Packet
	deficit          [api.Buckets]int
	codel            [api.Buckets]codel.Codel
	in               [api.Buckets]string
	since            [api.Buckets]int
	joined           int
}

func (r *rival) clone() *rival {
	c := *r
	c.packets = slices.Clone(r.packets)
	return &c
}

func (r *rival) join(b int, list string) {
	r.joined++
	r.in[b], r.since[b] = list, r.joined
}

// first is the first flow of a list, or -1.
func (r *rival) first(list string) int {
	first := -1
	for b := range api.Buckets {
		if r.in[b] == list && (first < 0 || r.since[b] < r.since[first]) {
			first = b
		}
	}
	return first
}

// of is the packets of a bucket.
func (r *rival) of(b int) []api.Packet {
	var l []api.Packet
	for _, p := range r.packets {
		if hash.Bucket(p.Flow, r.seed) == b {
			l = append(l, p)
		}
	}
	return l
}

func size(l []api.Packet) int {
	n := 0
	for _, p := range l {
		n += len(p.Body)
	}
	return n
}

func (r *rival) put(p api.Packet) int {
	b := hash.Bucket(p.Flow, r.seed)
	r.packets = append(r.packets, p)
	if r.in[b] == "" {
		r.deficit[b] = 300
		r.join(b, "new")
	}
	return b
}

// shift takes away the first of a bucket.
func (r *rival) shift(b int) api.Packet {
	i := slices.IndexFunc(r.packets, func(p api.Packet) bool { return hash.Bucket(p.Flow, r.seed) == b })
	p := r.packets[i]
	r.packets = append(slices.Clone(r.packets[:i]), r.packets[i+1:]...)
	return p
}

func (r *rival) take(now int64) (api.Packet, []api.Packet, bool) {
	var dropped []api.Packet
	for {
		b := r.first("new")
		if b < 0 {
			b = r.first("elder")
		}
		if b < 0 {
			return api.Packet{}, dropped, false
		}
		if r.deficit[b] <= 0 {
			r.deficit[b] += 300
			r.join(b, "elder")
			continue
		}
		var items []api.Item
		for _, p := range r.of(b) {
			items = append(items, api.Item{At: p.At, Len: len(p.Body)})
		}
		c, n, is := r.codel[b].Pull(now, r.target, r.interval, size(r.of(b)), items...)
		r.codel[b] = c
		for range n {
			dropped = append(dropped, r.shift(b))
		}
		if is {
			p := r.shift(b)
			r.deficit[b] -= len(p.Body)
			return p, dropped, true
		}
		was := r.in[b]
		r.in[b] = ""
		if was == "new" && r.first("elder") >= 0 {
			r.join(b, "elder")
		}
	}
}

func (r *rival) fattest() (int, int) {
	fattest, most := 0, 0
	for b := api.Buckets - 1; b >= 0; b-- {
		if l := r.of(b); len(l) > 0 && size(l) >= most {
			fattest, most = b, size(l)
		}
	}
	return fattest, most
}

func (r *rival) all() []api.Packet {
	var l []api.Packet
	for b := range api.Buckets {
		l = append(l, r.of(b)...)
	}
	return l
}

// pair is a queue and its rival.
type pair struct {
	q *Queue
	r *rival
}

func newPair(seed uint32, target, interval int64) pair {
	return pair{New(seed, target, interval), &rival{seed: seed, target: target, interval: interval}}
}

func (x pair) clone() pair { return pair{x.q.Clone(), x.r.clone()} }

func (x pair) put(t *testing.T, p api.Packet) {
	t.Helper()
	mine := p
	mine.Body = bytes.Clone(p.Body)
	if got, want := hand(t, x.q, mine), x.r.put(p); got != want {
		t.Fatalf("Put(%+v) = %d, want %d", p, got, want)
	}
}

func (x pair) take(t *testing.T, now int64) int {
	t.Helper()
	p, dropped, is := x.q.Take(now)
	wantP, wantDropped, wantIs := x.r.take(now)
	if !same(p, wantP) || !slices.EqualFunc(dropped, wantDropped, same) || is != wantIs {
		t.Fatalf("Take(%d) = %+v, %+v, %v, want %+v, %+v, %v", now, p, dropped, is, wantP, wantDropped, wantIs)
	}
	for _, d := range append(dropped, p) {
		write(d)
	}
	return len(wantDropped)
}

func (x pair) dropHead(t *testing.T, b int) {
	t.Helper()
	p, is := x.q.DropHead(b)
	var want api.Packet
	there := len(x.r.of(b)) > 0
	if there {
		want = x.r.shift(b)
	}
	if !same(p, want) || is != there {
		t.Fatalf("DropHead(%d) = %+v, %v, want %+v, %v", b, p, is, want, there)
	}
	write(p)
}

// look holds all that a queue tells of itself against its rival.
func (x pair) look(t *testing.T) {
	t.Helper()
	all, want := x.q.All(), x.r.all()
	if !slices.EqualFunc(all, want, same) {
		t.Fatalf("All() = %+v, want %+v", all, want)
	}
	for _, p := range all {
		write(p)
	}
	if n, m := x.q.Len(), x.q.Bytes(); n != len(want) || m != size(want) {
		t.Fatalf("%d packets, %d bytes, want %d, %d", n, m, len(want), size(want))
	}
	b, n := x.q.Fattest()
	if wantB, wantN := x.r.fattest(); b != wantB || n != wantN {
		t.Fatalf("Fattest() = %d, %d, want %d, %d", b, n, wantB, wantN)
	}
	for b := -1; b <= api.Buckets; b++ {
		var first api.Packet
		l := x.r.of(b)
		if len(l) > 0 {
			first = l[0]
		}
		p, is := x.q.Head(b)
		if is != (len(l) > 0) || !same(p, first) {
			t.Fatalf("Head(%d) = %+v, %v, want %+v", b, p, is, first)
		}
		write(p)
	}
}

// dice answer numbers by a rule that comes by everywhere.
type dice uint64

func (d *dice) below(n int) int {
	*d += 0x9e3779b97f4a7c15
	x := uint64(*d)
	x = (x ^ x>>30) * 0xbf58476d1ce4e5b9
	x = (x ^ x>>27) * 0x94d049bb133111eb
	return int((x ^ x>>31) % uint64(n))
}

// long is a length: nothing, little, about a Quantum, what a packet may have, more.
func (d *dice) long() int {
	switch d.below(8) {
	case 0:
		return 0
	case 1:
		return d.below(20)
	case 2:
		return 298 + d.below(5)
	case 3:
		return 300 * d.below(6)
	case 4:
		return 1500 + d.below(2000)
	}
	return d.below(1501)
}

// course is a queue in which packets come and go at random for a while.
type course struct {
	dice  dice
	x     pair
	flows int
	now   int64
	id    int
	drops int
}

// step puts some, or takes some, or drops some, or goes on with a copy.
func (c *course) step(t *testing.T, filling bool) {
	t.Helper()
	c.now += int64(c.dice.below(200))
	few, many := 2, 4
	if filling {
		few, many = 4, 2
	}
	switch c.dice.below(12) {
	default:
		for range c.dice.below(few) {
			c.id++
			flow := uint32(c.dice.below(c.flows)) * 0x9e3779b9
			c.x.put(t, api.Packet{ID: c.id, Flow: flow, TID: c.id % 8, At: c.now - int64(c.dice.below(50)), Body: body(c.id, c.dice.long())})
		}
	case 0, 1, 2, 3, 4:
		for range c.dice.below(many) {
			c.drops += c.x.take(t, c.now)
		}
	case 5:
		for range c.dice.below(many) {
			b, _ := c.x.q.Fattest()
			c.x.dropHead(t, b)
		}
	case 6:
		b := c.dice.below(api.Buckets)
		for range c.dice.below(10) {
			c.x.dropHead(t, b)
		}
	case 7:
		// The one of the two that is left alone is not what it was, if the other one touches it.
		was := c.x.clone()
		kept := c.x
		if c.dice.below(2) == 0 {
			was, kept = kept, was
		}
		other := course{dice: c.dice, x: kept, flows: c.flows, now: c.now, id: c.id}
		for range 20 {
			other.turn(t, true)
		}
		c.x = was
		c.x.look(t)
	}
}

// turn is a step that makes no copy.
func (c *course) turn(t *testing.T, filling bool) {
	t.Helper()
	c.id++
	flow := uint32(c.dice.below(c.flows)) * 0x9e3779b9
	c.x.put(t, api.Packet{ID: c.id, Flow: flow, At: c.now, Body: body(c.id, c.dice.long())})
	if c.dice.below(3) > 0 || !filling {
		c.x.take(t, c.now)
	}
}

// TestModel has queues of few flows and of many that grow and shrink, with short times and long ones.
func TestModel(t *testing.T) {
	drops := 0
	for i := range 120 {
		c := course{dice: dice(i), flows: []int{1, 2, 3, 5, 12, 60}[i%6]}
		c.x = newPair(uint32(c.dice.below(1<<31-1)), int64(c.dice.below(600)), int64(c.dice.below(1500)))
		for k := range 300 {
			c.step(t, k/60%2 == 0)
			c.x.look(t)
		}
		for c.x.q.Len() > 0 {
			c.now += int64(c.dice.below(50))
			c.drops += c.x.take(t, c.now)
		}
		c.x.take(t, c.now)
		c.x.look(t)
		drops += c.drops
	}
	if drops < 500 {
		t.Errorf("%d were dropped in all", drops)
	}
}

// TestNothingBeside: one queue tells nothing of another one.
func TestNothingBeside(t *testing.T) {
	alone, beside, other := newPair(1, 50, 200), newPair(1, 50, 200), newPair(2, 0, 0)
	d := dice(7)
	for i := range 500 {
		p := api.Packet{ID: i + 1, Flow: uint32(d.below(9)), At: int64(10 * i), Body: body(i+1, d.long())}
		alone.put(t, p)
		other.put(t, p)
		beside.put(t, p)
		if i%2 == 0 {
			other.take(t, int64(10*i))
			beside.take(t, int64(10*i))
			alone.take(t, int64(10*i))
		}
		other.dropHead(t, i%16)
	}
	if a, b := alone.q.All(), beside.q.All(); !slices.EqualFunc(a, b, same) {
		t.Errorf("%d alone, %d beside another one", len(a), len(b))
	}
}

// FuzzQueue holds a queue against its rival, at what two bytes each say.
func FuzzQueue(f *testing.F) {
	f.Add(uint32(9), int64(100), int64(1000), []byte{0, 10, 16, 200, 1, 4, 1, 9})
	f.Add(uint32(0), int64(0), int64(0), bytes.Repeat([]byte{32, 255, 32, 255, 33, 255, 1, 255}, 9))
	f.Add(uint32(math.MaxUint32), int64(-1), int64(math.MaxInt64), bytes.Repeat([]byte{0, 100, 16, 100, 2, 11, 3, 0}, 9))
	f.Fuzz(func(t *testing.T, seed uint32, target, interval int64, steps []byte) {
		x, now := newPair(seed, target, interval), int64(0)
		var left []pair
		for i := 0; i+1 < min(len(steps), 200); i += 2 {
			what, number := int(steps[i]%16), int(steps[i+1])
			switch what {
			case 0:
				x.put(t, api.Packet{ID: i, Flow: uint32(steps[i] / 16), At: now, Body: body(i, 8*number)})
			case 1:
				now += int64(number * number)
				x.take(t, now)
			case 2:
				x.dropHead(t, number-100)
			case 3:
				if len(left) < 8 {
					left = append(left, x)
					x = x.clone()
				}
			default:
				x.put(t, api.Packet{ID: i, Flow: uint32(what), At: now - int64(number), Body: body(i, number+what*what*what)})
			}
			x.look(t)
		}
		for _, x := range append(left, x) {
			x.look(t)
			for x.r.first("new") >= 0 || x.r.first("elder") >= 0 {
				x.take(t, now)
			}
			x.look(t)
		}
	})
}
