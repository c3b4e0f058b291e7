package journal_test

import (
	"encoding/binary"
	"fmt"
	"slices"
	"testing"

	"meridian/api"
	"meridian/disk"
	"meridian/journal"
)

// image is what the sectors of a disk have.
type image [][]byte

// made is a sector, written out by hand.
func made(lap, record uint32, number, of uint16, b []byte) []byte {
	s := binary.BigEndian.AppendUint32(nil, lap)
	s = binary.BigEndian.AppendUint32(s, record)
	s = binary.BigEndian.AppendUint16(s, number)
	s = binary.BigEndian.AppendUint16(s, of)
	s = append(append(s, byte(len(b))), b...)
	s = append(s, make([]byte, 60-len(s))...)
	return binary.BigEndian.AppendUint32(s, lap)
}

// laid is the sectors of a record.
func laid(lap uint32, number int, record []byte) image {
	chunks := slices.Collect(slices.Chunk(record, 47))
	if len(chunks) == 0 {
		chunks = [][]byte{nil}
	}
	var out image
	for i, c := range chunks {
		out = append(out, made(lap, uint32(number), uint16(i+1), uint16(len(chunks)), c))
	}
	return out
}

// allLaid is the sectors of the records of a lap.
func allLaid(lap uint32, records ...[]byte) image {
	var out image
	for i, r := range records {
		out = append(out, laid(lap, i, r)...)
	}
	return out
}

func (m image) half(h int) image { return m[h*(len(m)/2) : (h+1)*(len(m)/2)] }

// top is the greatest number in the bytes 60 to 63 of the sectors of both halves.
func (m image) top() uint32 {
	top := uint32(0)
	for _, s := range slices.Concat(m.half(0), m.half(1)) {
		top = max(top, binary.BigEndian.Uint32(s[60:]))
	}
	return top
}

// wholes is a half's records: each is read as its sectors tell it, laid anew, and held against them.
func (m image) wholes(h int) (uint32, [][]byte) {
	half := m.half(h)
	lap := binary.BigEndian.Uint32(half[0])
	var records [][]byte
	for at := 0; lap > 0 && at < len(half); {
		n := int(binary.BigEndian.Uint16(half[at][10:]))
		if n == 0 || at+n > len(half) {
			break
		}
		var record []byte
		for _, s := range half[at : at+n] {
			record = append(record, s[13:13+min(s[12], 47)]...)
		}
		if !alike(laid(lap, len(records), record), half[at:at+n]) {
			break
		}
		records = append(records, record)
		at += n
	}
	if len(records) == 0 {
		return 0, nil
	}
	return lap, records
}

// journal is the half that has the journal's records, and these; -1, if there are none.
func (m image) journal() (int, [][]byte) {
	half, most, records := -1, uint32(0), [][]byte(nil)
	for h := range 2 {
		if lap, found := m.wholes(h); lap > most {
			half, most, records = h, lap, found
		}
	}
	return half, records
}

// alike tells whether two lists of texts are the same.
func alike(a, b [][]byte) bool { return slices.EqualFunc(a, b, slices.Equal) }

func clone(list [][]byte) [][]byte {
	var out [][]byte
	for _, b := range list {
		out = append(out, slices.Clone(b))
	}
	return out
}

// seen is what a disk has.
func seen(t *testing.T, d *disk.Disk) image {
	t.Helper()
	var out image
	for i := range d.Len() {
		b, e := d.Read(i)
		if e != api.OK {
			t.Fatalf("the disk's Read(%d) is %d", i, e)
		}
		out = append(out, b)
	}
	return out
}

// lay is a disk that has some sectors, from a place on, and nothing beside them; all is synced.
func lay(t *testing.T, n int, places map[int]image) *disk.Disk {
	t.Helper()
	d, e := disk.New(n)
	if e != api.OK {
		t.Fatalf("the disk's New(%d) is %d", n, e)
	}
	for place, sectors := range places {
		for i, s := range sectors {
			if e := d.Write(place+i, s); e != api.OK {
				t.Fatalf("the disk's Write(%d) is %d", place+i, e)
			}
		}
	}
	if e := d.Sync(); e != api.OK {
		t.Fatalf("the disk's Sync is %d", e)
	}
	return d
}

// bench is a disk with a journal, and what they are to have.
type bench struct {
	t       *testing.T
	disk    *disk.Disk
	journal *journal.Journal
	image   image    // what the disk has while it is up
	lap     uint32   // 0: not started
	half    int      // that of the lap
	used    int      // so many of its sectors
	kept    [][]byte // the journal's records
	perhaps [][]byte // what they are too, perhaps, behind a crash of a call that was broken off
	broken  bool     // a call was broken off, and no crash came since
	over    bool
	calls   []string
}

// newBench opens a journal on a disk of n sectors, on which is nothing.
func newBench(t *testing.T, n int) *bench {
	t.Helper()
	return benchOf(t, lay(t, n, nil))
}

// benchOf opens the journal of a disk that is up.
func benchOf(t *testing.T, d *disk.Disk) *bench {
	t.Helper()
	b := &bench{t: t, disk: d, image: seen(t, d)}
	_, b.kept = b.image.journal()
	b.open()
	return b
}

// fail tells the last calls with what was wrong behind them.
func (b *bench) fail(form string, args ...any) {
	b.t.Helper()
	b.t.Fatalf("%d sectors, %d calls, of which the last %v: %s", len(b.image), len(b.calls), b.calls[max(len(b.calls)-10, 0):], fmt.Sprintf(form, args...))
}

// open opens the journal anew, of a disk that is up.
func (b *bench) open() {
	b.t.Helper()
	b.calls = append(b.calls, "Open")
	steps, pending := b.disk.Steps(), b.disk.Pending()
	j, records, e := journal.Open(b.disk)
	if j == nil || e != api.OK || !alike(records, b.kept) {
		b.fail("is %v, %v, %d, and not %v", j != nil, records, e, b.kept)
	}
	if b.disk.Steps() != steps || b.disk.Pending() != pending {
		b.fail("it wrote")
	}
	b.journal, b.lap, b.half, b.used, b.over = j, 0, 0, 0, false
	b.same()
}

// same holds what can be asked without a change to what there is to be.
func (b *bench) same() {
	b.t.Helper()
	room := len(b.image)/2 - b.used
	if b.over || b.lap == 0 {
		room = 0
	}
	if b.journal.Room() != room || b.journal.Lap() != int(b.lap) {
		b.fail("Room is %d, Lap %d, not %d, %d", b.journal.Room(), b.journal.Lap(), room, b.lap)
	}
	if b.disk.Down() {
		return
	}
	if now := seen(b.t, b.disk); !alike(now, b.image) {
		b.fail("the disk has %v, not %v", now, b.image)
	}
	if half, records := b.image.journal(); !alike(records, b.kept) {
		b.fail("the records on the disk are %v, in the half %d, and not %v", records, half, b.kept)
	}
}

// call makes a Start or an Append of a record; where would it go, if it were taken?
func (b *bench) call(start bool, record []byte) api.Errno {
	b.t.Helper()
	lap, half, used, kept := b.lap, b.half, b.used, clone(b.kept)
	if start {
		at, _ := b.image.journal()
		lap, half, used, kept = b.image.top()+1, 0, 0, nil
		if at == 0 {
			half = 1
		}
	}
	sectors := laid(lap, len(kept), record)
	kept = append(kept, slices.Clone(record))
	want := b.refusal(start, len(sectors))
	refused := want != api.OK || b.disk.Down()
	if want == api.OK && b.disk.Down() {
		want, b.over = api.ErrDown, true
	}
	steps, pending := b.disk.Steps(), b.disk.Pending()
	got := b.ask(start, record)
	if refused && (b.disk.Steps() != steps || b.disk.Pending() != pending) {
		b.fail("it was refused, and wrote")
	}
	if want == api.OK && b.disk.Down() {
		want = api.ErrDown
		b.perhaps, b.broken, b.over = kept, true, true
	}
	if got != want {
		b.fail("is %d, not %d", got, want)
	}
	if want == api.OK {
		copy(b.image[half*(len(b.image)/2)+used:], sectors)
		b.lap, b.half, b.used, b.kept = lap, half, used+len(sectors), kept
		if b.disk.Pending() != 0 {
			b.fail("not all is synced")
		}
	}
	b.same()
	return got
}

// ask makes the call, with bytes that are changed behind it.
func (b *bench) ask(start bool, record []byte) api.Errno {
	b.t.Helper()
	handed := append(slices.Clone(record), 1, 2, 3)
	call, name := b.journal.Append, "Append"
	if start {
		call, name = b.journal.Start, "Start"
	}
	b.calls = append(b.calls, fmt.Sprintf("%s(%d bytes %.3v)", name, len(record), record[:min(len(record), 3)]))
	e := call(handed[:len(record)])
	if !slices.Equal(handed, append(slices.Clone(record), 1, 2, 3)) {
		b.fail("it changed what was handed in")
	}
	for i := range handed {
		handed[i] = 201
	}
	return e
}

// refusal is what a call of so many parts answers ahead of any write.
func (b *bench) refusal(start bool, parts int) api.Errno {
	half := len(b.image) / 2
	switch {
	case b.over:
		return api.ErrDown
	case !start && b.lap == 0:
		return api.ErrArg
	case !start && b.used+parts > half, start && parts > half, start && b.image.top() > 1<<31-2:
		return api.ErrLogFull
	}
	return api.OK
}

func (b *bench) start(record []byte, want api.Errno) {
	b.t.Helper()
	if e := b.call(true, record); e != want {
		b.fail("is %d, and not %d", e, want)
	}
}

func (b *bench) append(record []byte, want api.Errno) {
	b.t.Helper()
	if e := b.call(false, record); e != want {
		b.fail("is %d, and not %d", e, want)
	}
}

func (b *bench) fuse(n int) {
	b.t.Helper()
	b.calls = append(b.calls, fmt.Sprintf("Fuse(%d)", n))
	b.disk.Fuse(n)
}

// crash lets the disk crash: what was answered is there, and of a call that was broken off all or nothing.
func (b *bench) crash(choices ...byte) {
	b.t.Helper()
	b.calls = append(b.calls, fmt.Sprintf("Crash(%v)", choices))
	b.disk.Crash(choices)
	now := seen(b.t, b.disk)
	_, records := now.journal()
	switch {
	case !b.broken && !alike(now, b.image):
		b.fail("the disk has %v, and had %v", now, b.image)
	case alike(records, b.kept), b.broken && alike(records, b.perhaps):
	default:
		b.fail("the records are %v, and were %v, or %v", records, b.kept, b.perhaps)
	}
	b.image, b.kept, b.broken = now, records, false
	b.same()
}

// has holds a journal to its room and its lap.
func (b *bench) has(room, lap int) {
	b.t.Helper()
	if b.journal.Room() != room || b.journal.Lap() != lap {
		b.fail("Room is %d, Lap %d, and not %d, %d", b.journal.Room(), b.journal.Lap(), room, lap)
	}
}

// stands holds the disk to some sectors, from a place on.
func (b *bench) stands(place int, want image) {
	b.t.Helper()
	if now := seen(b.t, b.disk)[place : place+len(want)]; !alike(now, want) {
		b.fail("the sectors from %d on are %v, and not %v", place, now, want)
	}
}

// keeps holds the journal, opened anew, to its records.
func (b *bench) keeps(want ...[]byte) {
	b.t.Helper()
	if _, records, e := journal.Open(b.disk); e != api.OK || !alike(records, want) {
		b.fail("what is opened is %v, %d, and not %v", records, e, want)
	}
}
