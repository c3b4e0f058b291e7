package journal_test

import (
	"bytes"
	"encoding/binary"
	"math"
	"math/rand"
	"slices"
	"testing"

	"meridian/api"
	"meridian/disk"
	"meridian/journal"
)

// The exact signatures: another one would not build.
var (
	_ func(*disk.Disk) (*journal.Journal, [][]byte, api.Errno) = journal.Open
	_ func(*journal.Journal, []byte) api.Errno                 = (*journal.Journal).Start
	_ func(*journal.Journal, []byte) api.Errno                 = (*journal.Journal).Append
	_ func(*journal.Journal) int                               = (*journal.Journal).Room
	_ func(*journal.Journal) int                               = (*journal.Journal).Lap
	_ func(int) int                                            = journal.Parts
)

// some is n bytes of which none is 0, and which differ by their seed at each place.
func some(n int, seed byte) []byte {
	b := make([]byte, n)
	for i := range b {
		b[i] = 1 + byte((i*7+int(seed)*31)%255)
	}
	return b
}

// spoilt is a sector with another byte at one place.
func spoilt(s []byte, at int, c byte) []byte {
	s = slices.Clone(s)
	s[at] = c
	return s
}

// numbered is a sector that is no record's, with a number in its bytes 60 to 63.
func numbered(n uint32) []byte {
	s := bytes.Repeat([]byte{0xEE}, 60)
	return binary.BigEndian.AppendUint32(s, n)
}

// P13.1: the chapter's example.
func TestExample(t *testing.T) {
	d, _ := disk.New(8)
	j, records, e := journal.Open(d)
	if e != api.OK || len(records) != 0 {
		t.Fatalf("Open is %v, %d", records, e)
	}
	if e := j.Append([]byte("b")); e != api.ErrArg {
		t.Errorf("Append is %d ahead of Start", e)
	}
	if e := j.Start([]byte("a")); e != api.OK || j.Lap() != 1 || j.Room() != 3 {
		t.Errorf("Start is %d, Lap %d, Room %d", e, j.Lap(), j.Room())
	}
	if e := j.Append(some(100, 1)); e != api.OK || j.Room() != 0 {
		t.Errorf("Append is %d, Room %d", e, j.Room())
	}
	if e := j.Append(nil); e != api.ErrLogFull {
		t.Errorf("Append is %d", e)
	}
	j, records, e = journal.Open(d)
	if e != api.OK || !alike(records, [][]byte{[]byte("a"), some(100, 1)}) {
		t.Errorf("Open is %v, %d", records, e)
	}
	if e := j.Start(nil); e != api.OK || j.Lap() != 2 {
		t.Errorf("Start is %d, Lap %d", e, j.Lap())
	}
}

// P13.1: what stands on a disk, byte by byte, written out.
func TestBytes(t *testing.T) {
	d, _ := disk.New(8)
	j, _, _ := journal.Open(d)
	record := some(48, 3)
	if j.Start(nil) != api.OK || j.Append(record) != api.OK {
		t.Fatal("Start or Append")
	}
	want := image{
		slices.Concat([]byte{0, 0, 0, 1, 0, 0, 0, 0, 0, 1, 0, 1, 0}, make([]byte, 47), []byte{0, 0, 0, 1}),
		slices.Concat([]byte{0, 0, 0, 1, 0, 0, 0, 1, 0, 1, 0, 2, 47}, record[:47], []byte{0, 0, 0, 1}),
		slices.Concat([]byte{0, 0, 0, 1, 0, 0, 0, 1, 0, 2, 0, 2, 1, record[47]}, make([]byte, 46), []byte{0, 0, 0, 1}),
	}
	for range 5 {
		want = append(want, make([]byte, 64))
	}
	if now := seen(t, d); !alike(now, want) {
		t.Errorf("the disk has %v", now)
	}
}

// P13.1: numbers above 255 have their highest byte first: of a lap, of a record, of a part and of how many there are.
func TestGreatNumbers(t *testing.T) {
	b := benchOf(t, lay(t, 1200, map[int]image{1100: {numbered(0x01020303)}}))
	long := some(300*47, 1)
	b.start(long, api.OK)
	b.has(300, 0x01020304)
	s := seen(t, b.disk)[0x12B]
	if !slices.Equal(s[:13], []byte{1, 2, 3, 4, 0, 0, 0, 0, 1, 0x2C, 1, 0x2C, 47}) || !slices.Equal(s[60:], []byte{1, 2, 3, 4}) {
		t.Errorf("the last part is %v", s)
	}
	for i := range 299 {
		if e := b.journal.Append(some(i%48, byte(i))); e != api.OK {
			t.Fatalf("Append is %d", e)
		}
	}
	s = seen(t, b.disk)[300+298]
	if !slices.Equal(s[:13], []byte{1, 2, 3, 4, 0, 0, 1, 0x2B, 0, 1, 0, 1, 298 % 48}) {
		t.Errorf("the last record is %v", s)
	}
	_, records, e := journal.Open(b.disk)
	if e != api.OK || len(records) != 300 || !slices.Equal(records[0], long) {
		t.Fatalf("Open has %d records, and is %d", len(records), e)
	}
	for i, r := range records[1:] {
		if !slices.Equal(r, some(i%48, byte(i))) {
			t.Errorf("the record %d is %v", i+1, r)
		}
	}
}

// P13.1: Open of no disk, of one that is too small, down or not, of one that is down, and of one with nothing on it.
func TestOpen(t *testing.T) {
	if j, records, e := journal.Open(nil); j != nil || len(records) != 0 || e != api.ErrArg {
		t.Errorf("Open(nil) is %v, %v, %d", j != nil, records, e)
	}
	for n := 1; n <= 9; n++ {
		d := lay(t, n, nil)
		for i := range n {
			d.Write(i, laid(1, 0, some(5, byte(i)))[0])
		}
		for _, down := range []bool{false, true} {
			if down {
				d.Fuse(0)
				d.Sync()
			}
			j, records, e := journal.Open(d)
			want := api.OK
			if down {
				want = api.ErrDown
			}
			if n < 4 {
				want = api.ErrArg
			}
			if e != want || (j != nil) != (e == api.OK) || e != api.OK && len(records) != 0 {
				t.Errorf("%d sectors, down %v: Open is %v, %v, %d", n, down, j != nil, records, e)
			}
		}
	}
	for _, n := range []int{4, 5, 6, 7, 8, 9, 64, 65, 4095, 4096} {
		b := newBench(t, n)
		b.has(0, 0)
		b.keeps()
		b.start(some(n/2*47, 1), api.OK)
		b.has(0, 1)
		b.start(some(n/2*47-47, 2), api.OK)
		b.has(1, 2)
		b.open()
	}
}

// P13.3: Open writes nothing: it does no step, so it spends no fuse, and leaves pending what is pending.
func TestOpenWritesNothing(t *testing.T) {
	d := lay(t, 9, map[int]image{0: laid(3, 0, some(60, 1)), 4: {numbered(7)}})
	d.Write(2, laid(3, 1, some(9, 2))[0])
	d.Write(8, numbered(9))
	before, steps := seen(t, d), d.Steps()
	d.Fuse(0)
	for range 3 {
		_, records, e := journal.Open(d)
		if e != api.OK || !alike(records, [][]byte{some(60, 1), some(9, 2)}) {
			t.Errorf("Open is %v, %d", records, e)
		}
		if d.Down() || d.Pending() != 2 || d.Steps() != steps || !alike(seen(t, d), before) {
			t.Errorf("Down %v, Pending %d, Steps %d, not %d, and the disk has %v", d.Down(), d.Pending(), d.Steps(), steps, seen(t, d))
		}
	}
	d.Crash(nil)
	if _, records, e := journal.Open(d); e != api.OK || !alike(records, [][]byte{some(60, 1)}) {
		t.Errorf("Open is %v, %d behind a crash", records, e)
	}
}

// P13.1: Parts by counting, at its edges, and of the greatest numbers.
func TestParts(t *testing.T) {
	for n, want := range map[int]int{
		math.MinInt: 0, math.MinInt + 1: 0, math.MinInt32: 0, -48: 0, -47: 0, -46: 0, -2: 0, -1: 0,
		0: 1, 1: 1, 46: 1, 47: 1, 48: 2, 93: 2, 94: 2, 95: 3, 141: 3, 142: 4,
		1<<31 - 1: 45691142, 1 << 31: 45691142, math.MaxInt: 196241958230952677, math.MaxInt - 1: 196241958230952677,
		196241958230952676 * 47: 196241958230952676, 196241958230952676*47 + 1: 196241958230952677,
	} {
		if got := journal.Parts(n); got != want {
			t.Errorf("Parts(%d) is %d, not %d", n, got, want)
		}
	}
	want := 1
	for n := range 100 * 47 {
		if n > want*47 {
			want++
		}
		if got := journal.Parts(n); got != want {
			t.Errorf("Parts(%d) is %d, not %d", n, got, want)
		}
	}
}

// P13.1: Start of records of each size that a half may have, and of one part more.
func TestStartSizes(t *testing.T) {
	for _, n := range []int{4, 5, 8, 9, 12} {
		half := n / 2
		for size := range (half + 2) * 47 {
			parts := 1
			for parts*47 < size {
				parts++
			}
			b := newBench(t, n)
			if parts > half {
				b.start(some(size, 1), api.ErrLogFull)
				b.has(0, 0)
				b.append(nil, api.ErrArg)
				b.start(some(1, 2), api.OK)
				b.has(half-1, 1)
				continue
			}
			b.start(some(size, 1), api.OK)
			b.has(half-parts, 1)
			b.stands(0, laid(1, 0, some(size, 1)))
			b.keeps(some(size, 1))
		}
	}
}

// P13.1: a Start that is too large leaves the lap as it was, however many times it is asked for, and how large it may be.
func TestStartTooLarge(t *testing.T) {
	b := newBench(t, 8)
	b.start(some(50, 1), api.OK)
	for _, size := range []int{4*47 + 1, 5 * 47, 1000, 65535 * 47, 65536 * 47, 65537*47 + 1} {
		b.start(some(size, 2), api.ErrLogFull)
		b.has(2, 1)
		b.append(some(size, 2), api.ErrLogFull)
		b.has(2, 1)
	}
	b.append(some(94, 3), api.OK)
	b.has(0, 1)
	b.keeps(some(50, 1), some(94, 3))
}

// P13.1: laps take one half and the other in turn, behind an Open too, and each is 1 more than the one ahead.
func TestHalvesInTurn(t *testing.T) {
	for _, n := range []int{4, 5, 9, 10} {
		for opens := range 4 {
			b := newBench(t, n)
			for lap := 1; lap <= 40; lap++ {
				record := some(lap%(n/2*47+1), byte(lap))
				b.start(record, api.OK)
				if b.journal.Lap() != lap {
					b.fail("Lap is %d", b.journal.Lap())
				}
				b.stands((lap-1)%2*(n/2), laid(uint32(lap), 0, record))
				for b.journal.Room() > 0 && lap%3 > 0 {
					b.append(some(b.journal.Room()%2, 7), api.OK)
				}
				if opens > 0 && lap%opens == 0 {
					b.open()
					b.has(0, 0)
					b.append(record, api.ErrArg)
				}
			}
		}
	}
}

// P13.1: a new lap is above each number that stands in the bytes 60 to 63 of any sector of either half, and above none that stands elsewhere.
func TestNumbersThatStand(t *testing.T) {
	for _, n := range []int{4, 5, 9} {
		for place := range n / 2 * 2 {
			for _, number := range []uint32{1, 5, 254, 255, 256, 1<<16 - 1, 1 << 24, 1<<31 - 3, 1<<31 - 2} {
				b := benchOf(t, lay(t, n, map[int]image{place: {numbered(number)}}))
				b.has(0, 0)
				b.start(some(20, 1), api.OK)
				b.has(n/2-1, int(number)+1)
				b.stands(0, laid(number+1, 0, some(20, 1)))
				b.keeps(some(20, 1))
			}
		}
	}
	elsewhere := append(bytes.Repeat([]byte{0xFF}, 60), 0, 0, 0, 9)
	b := benchOf(t, lay(t, 9, map[int]image{1: {elsewhere}, 6: {elsewhere}, 8: {numbered(1000)}}))
	b.start(some(20, 1), api.OK)
	b.has(3, 10)
	b = benchOf(t, lay(t, 5, map[int]image{4: {numbered(1<<31 - 1)}}))
	b.start(some(20, 1), api.OK)
	b.has(1, 1)
}

// P13.1: numbers that stand beside records: the lap is above the greatest of all, and goes into the half that has no records.
func TestNumbersBesideRecords(t *testing.T) {
	for holder := range 2 {
		for place := range 8 {
			if place == holder*4 {
				continue
			}
			d := lay(t, 8, map[int]image{holder * 4: laid(5, 0, some(9, 1))})
			d.Write(place, numbered(700))
			b := benchOf(t, d)
			b.keeps(some(9, 1))
			b.start(some(30, 2), api.OK)
			b.has(3, 701)
			b.stands(4-holder*4, laid(701, 0, some(30, 2)))
			b.start(nil, api.OK)
			b.has(3, 702)
			b.stands(holder*4, laid(702, 0, nil))
		}
	}
}

// P13.1: the last lap is 2^31 - 1: where the greatest number is that or more, Start is ErrLogFull, and nothing changes.
func TestLastLap(t *testing.T) {
	for place := range 8 {
		b := benchOf(t, lay(t, 8, map[int]image{place: {numbered(1<<31 - 3)}}))
		b.start(some(9, 1), api.OK)
		b.has(3, 1<<31-2)
		b.start(some(9, 2), api.OK)
		b.has(3, 1<<31-1)
		b.start(some(9, 3), api.ErrLogFull)
		b.has(3, 1<<31-1)
		b.append(some(95, 4), api.OK)
		b.has(0, 1<<31-1)
		b.start(nil, api.ErrLogFull)
		b.append(nil, api.ErrLogFull)
		b.open()
		b.start(nil, api.ErrLogFull)
		b.append(nil, api.ErrArg)
		b.has(0, 0)
		b.keeps(some(9, 2), some(95, 4))
		for _, number := range []uint32{1<<31 - 1, 1 << 31, 1<<31 + 1, 1<<32 - 2, 1<<32 - 1} {
			b = benchOf(t, lay(t, 8, map[int]image{place: {numbered(number)}}))
			b.fuse(0)
			b.start(some(9, 1), api.ErrLogFull)
			b.start(nil, api.ErrLogFull)
			b.append(nil, api.ErrArg)
			b.has(0, 0)
		}
	}
}

// P13.1: records of laps above 2^31 - 1 are records; the lap of both halves is read without a sign.
func TestGreatLaps(t *testing.T) {
	for _, lap := range []uint32{1, 255, 256, 1<<31 - 1, 1 << 31, 1<<31 + 1, 1<<32 - 1} {
		for holder := range 2 {
			places := map[int]image{holder * 4: allLaid(lap, some(60, 1), nil)}
			if lap > 1 {
				places[4-holder*4] = allLaid(lap-1, some(2, 2), some(3, 3))
			}
			b := benchOf(t, lay(t, 8, places))
			b.keeps(some(60, 1), nil)
		}
	}
}

// P13.1: Append ahead of any Start, of no bytes, of each size that just fits, and of one part more.
func TestAppend(t *testing.T) {
	for _, n := range []int{4, 5, 8, 9, 12} {
		for parts := 1; parts <= n/2; parts++ {
			for size := range (n/2 + 1) * 47 {
				b := newBench(t, n)
				b.append(some(size, 1), api.ErrArg)
				b.start(some(parts*47, 1), api.OK)
				left := n/2 - parts
				if size > left*47 || left == 0 {
					b.append(some(size, 2), api.ErrLogFull)
					b.has(left, 1)
					b.keeps(some(parts*47, 1))
					continue
				}
				b.append(some(size, 2), api.OK)
				b.stands(parts, laid(1, 1, some(size, 2)))
				b.keeps(some(parts*47, 1), some(size, 2))
			}
		}
	}
}

// P13.1: records of no bytes, in a half full of them.
func TestEmptyRecords(t *testing.T) {
	b := newBench(t, 11)
	b.start(nil, api.OK)
	b.keeps(nil)
	for i := range 4 {
		b.append([]byte{}, api.OK)
		b.has(3-i, 1)
		b.keeps(make([][]byte, i+2)...)
	}
	b.append(nil, api.ErrLogFull)
	b.start([]byte{}, api.OK)
	b.has(4, 2)
	b.keeps(nil)
}

// P13.1: Append needs a Start of this very journal, though others were started on the disk; a refused one changes nothing.
func TestAppendNeedsStart(t *testing.T) {
	b := newBench(t, 8)
	for range 3 {
		b.append(some(20, 1), api.ErrArg)
		b.append(some(1000, 1), api.ErrArg)
		b.has(0, 0)
	}
	b.start(some(1, 1), api.OK)
	b.append(some(1, 2), api.OK)
	b.open()
	b.append(some(1, 3), api.ErrArg)
	b.start(some(1000, 1), api.ErrLogFull)
	b.append(some(1, 3), api.ErrArg)
	b.keeps(some(1, 1), some(1, 2))
}

// P13.1, P13.3: a disk that is down ahead of a call: what is refused for another reason, that is named first, still is; else ErrDown, for ever.
func TestDownAhead(t *testing.T) {
	for _, started := range []bool{false, true} {
		for _, start := range []bool{false, true} {
			b := newBench(t, 8)
			room, lap := 0, 0
			if started {
				b.start(some(60, 1), api.OK)
				room, lap = 2, 1
			}
			b.fuse(0)
			b.disk.Sync()
			b.has(room, lap)
			b.start(some(4*47+1, 2), api.ErrLogFull)
			b.has(room, lap)
			if started {
				b.append(some(2*47+1, 2), api.ErrLogFull)
			} else {
				b.append(nil, api.ErrArg)
			}
			b.has(room, lap)
			if start || !started {
				b.start(some(9, 3), api.ErrDown)
			} else {
				b.append(some(9, 3), api.ErrDown)
			}
			b.overForEver(lap)
			if started {
				b.keeps(some(60, 1))
			} else {
				b.keeps()
			}
		}
	}
}

// overForEver holds a journal to being over, while the disk is down and when it is up again.
func (b *bench) overForEver(lap int) {
	b.t.Helper()
	for turn := range 4 {
		for _, size := range []int{0, 1, 47, 48, 4 * 47, 4*47 + 1, 1000} {
			b.start(some(size, 1), api.ErrDown)
			b.append(some(size, 1), api.ErrDown)
			b.has(0, lap)
		}
		if turn%2 == 0 {
			b.crash(64, 64, 64, 64, 64, 64)
		} else {
			b.fuse(0)
		}
	}
	b.disk.Crash(nil)
}

// P13.1, P13.3: a disk that goes down at each step of each call, the sync too: ErrDown, and for ever; the lap is the one of the last call that was answered OK.
func TestGoesDown(t *testing.T) {
	for parts := 1; parts <= 3; parts++ {
		for laps := range 4 {
			for _, start := range []bool{false, true} {
				done := false
				for fuse := 0; !done; fuse++ {
					b := newBench(t, 8)
					for i := range laps {
						b.start(some(i, byte(i)), api.OK)
					}
					b.fuse(fuse)
					if !start && laps == 0 {
						b.append(some(parts*47, 9), api.ErrArg)
						break
					}
					done = b.call(start, some(parts*47, 9)) == api.OK
					if done {
						break
					}
					if fuse > 50 {
						b.fail("it never ends")
					}
					b.overForEver(laps)
				}
			}
		}
	}
}

// P13.1: a disk that crashes while nothing is under way: the journal goes on.
func TestCrashBetween(t *testing.T) {
	b := newBench(t, 8)
	b.crash()
	b.start(some(9, 1), api.OK)
	b.crash()
	b.append(some(9, 2), api.OK)
	b.fuse(0)
	b.disk.Sync()
	b.crash(64)
	b.has(2, 1)
	b.append(some(9, 3), api.OK)
	b.keeps(some(9, 1), some(9, 2), some(9, 3))
	b.start(some(9, 4), api.OK)
	b.crash(1, 2, 3)
	b.has(3, 2)
	b.keeps(some(9, 4))
}

// P13.1: all calls of a nil Journal.
func TestNil(t *testing.T) {
	var j *journal.Journal
	for range 2 {
		for _, record := range [][]byte{nil, {}, {1}, some(47, 1), some(10000, 1)} {
			if e := j.Start(record); e != api.ErrArg {
				t.Errorf("Start is %d", e)
			}
			if e := j.Append(record); e != api.ErrArg {
				t.Errorf("Append is %d", e)
			}
		}
		if j.Room() != 0 || j.Lap() != 0 {
			t.Errorf("Room is %d, Lap %d", j.Room(), j.Lap())
		}
	}
}

// P13.1: what Open answers is the caller's, spare room too: no record shares any with another one, with the disk, or with another answer.
func TestAnswersAreTheCallers(t *testing.T) {
	b := newBench(t, 16)
	want := [][]byte{some(100, 1), some(1, 2), nil, some(47, 3), some(48, 4)}
	b.start(want[0], api.OK)
	for _, r := range want[1:] {
		b.append(r, api.OK)
	}
	_, other, _ := journal.Open(b.disk)
	j, records, _ := journal.Open(b.disk)
	for i := range records {
		whole := records[i][:cap(records[i])]
		for at := range whole {
			whole[at] = 203
		}
		for k := range records {
			if k > i && !slices.Equal(records[k], want[k]) {
				t.Errorf("the record %d is %v behind a change of %d", k, records[k], i)
			}
			if k < i && !slices.Equal(records[k], bytes.Repeat([]byte{203}, len(want[k]))) {
				t.Errorf("the record %d is %v behind a change of %d", k, records[k], i)
			}
		}
	}
	for i := range records {
		records[i] = nil
	}
	if !alike(other, want) {
		t.Errorf("another answer is %v", other)
	}
	b.same()
	b.keeps(want...)
	if j.Start(some(5, 5)) != api.OK || j.Append(some(5, 6)) != api.OK {
		t.Error("Start or Append")
	}
	if !alike(other, want) {
		t.Errorf("another answer is %v behind further calls", other)
	}
}

// P13.1: what is handed in is read at once: neither what is changed behind the call, nor what lies behind its length, is ever written.
func TestHandedIn(t *testing.T) {
	room := some(300, 1)
	d := lay(t, 20, nil)
	j, _, _ := journal.Open(d)
	hand := func(call func([]byte) api.Errno, from, to int) {
		t.Helper()
		before := slices.Clone(room)
		if e := call(room[from:to]); e != api.OK || !slices.Equal(room, before) {
			t.Errorf("the call is %d, and left %v of %v", e, room, before)
		}
		for i := range room {
			room[i] += 50
		}
	}
	want := [][]byte{slices.Clone(room[:50])}
	hand(j.Start, 0, 50)
	for _, cut := range [][2]int{{10, 15}, {0, 94}, {7, 7}, {3, 98}, {0, 1}} {
		want = append(want, slices.Clone(room[cut[0]:cut[1]]))
		hand(j.Append, cut[0], cut[1])
	}
	if _, records, _ := journal.Open(d); !alike(records, want) {
		t.Errorf("Open is %v, not %v", records, want)
	}
	if now := seen(t, d)[:10]; !alike(now, allLaid(1, want...)) {
		t.Errorf("the disk has %v", now)
	}
}

// P13.1: journals of two disks have nothing in common.
func TestTwoJournals(t *testing.T) {
	a, b := newBench(t, 8), newBench(t, 9)
	a.start(some(5, 1), api.OK)
	b.same()
	b.append(nil, api.ErrArg)
	b.start(some(100, 2), api.OK)
	b.start(some(100, 3), api.OK)
	a.same()
	a.fuse(0)
	a.append(nil, api.ErrDown)
	b.append(nil, api.OK)
	b.same()
	a.crash()
	a.keeps(some(5, 1))
	b.keeps(some(100, 3), nil)
}

// fewCalls are calls that come to much of what a small journal can be.
func fewCalls(b *bench, which int) {
	b.t.Helper()
	switch which {
	case 0:
		b.call(true, some(3, byte(len(b.calls))))
	case 1:
		b.call(true, some(90, byte(len(b.calls))))
	case 2:
		b.call(false, some(0, 0))
	case 3:
		b.call(false, some(60, byte(len(b.calls))))
	case 4:
		if !b.disk.Down() {
			b.open()
		}
	case 5:
		b.fuse(1)
	case 6:
		b.fuse(2)
	case 7:
		b.crash(64, 64, 64)
	case 8:
		b.crash(0, 64, 30)
	}
}

// P13.1, P13.2, P13.3: each run of five of a few calls.
func TestRunsOfFewCalls(t *testing.T) {
	for run := range 9 * 9 * 9 * 9 * 9 {
		b := newBench(t, 7)
		for range 5 {
			fewCalls(b, run%9)
			run /= 9
		}
	}
}

// P13.1, P13.2, P13.3: calls by chance.
func TestByChance(t *testing.T) {
	r := rand.New(rand.NewSource(131))
	for range 250 {
		n := 4 + r.Intn(14)
		b := benchOf(t, lay(t, n, map[int]image{r.Intn(n): {numbered(r.Uint32() >> (1 + r.Intn(31)) &^ 0xF)}}))
		for range 120 {
			switch k := r.Intn(16); {
			case k < 3:
				b.call(true, some(r.Intn((n/2+1)*47), byte(r.Int())))
			case k < 11:
				b.call(false, some(r.Intn(r.Intn(n/2*47)+2), byte(r.Int())))
			case k < 12 || k < 14 && b.over && !b.disk.Down():
				if !b.disk.Down() {
					b.open()
				}
			case k < 13:
				b.fuse(r.Intn(7))
			default:
				choices := make([]byte, r.Intn(6))
				for i := range choices {
					choices[i] = []byte{0, 64, byte(r.Intn(256))}[r.Intn(3)]
				}
				b.crash(choices...)
			}
		}
	}
}
