package journal_test

import (
	"bytes"
	"fmt"
	"math/rand"
	"slices"
	"testing"

	"meridian/api"
	"meridian/disk"
	"meridian/journal"
)

// scene is a journal as it comes to stand ahead of a call, the records that it has then, and the numbers of its disk's sectors.
type scene struct {
	name  string
	n     int
	stood uint32 // a number that stands in the last sector of the second half, ahead of all; 0 is none
	laps  [][][]byte
}

// scenes come to all that a half can have ahead of a Start or an Append: nothing, or the sectors of an elder lap, with the same records and others, whole, and in laps whose numbers differ in one byte and in several.
func scenes() []scene {
	long, short := some(150, 11), some(20, 12)
	var out []scene
	for _, stood := range []uint32{0, 252, 253, 254, 1<<16 - 3, 1<<24 - 2} {
		out = append(out,
			scene{"nothing", 10, stood, nil},
			scene{"a lap", 10, stood, [][][]byte{{short, short}}},
			scene{"a long lap", 10, stood, [][][]byte{{long}}},
			scene{"laps in both halves", 10, stood, [][][]byte{{long, short}, {short}}},
			scene{"three laps of the same form", 10, stood, [][][]byte{{short, short, short, short}, {some(20, 13), nil}, {some(20, 14)}}},
			scene{"a lap over a long one", 10, stood, [][][]byte{{some(150, 15)}, {long}, {some(20, 16)}}},
			scene{"an odd disk", 11, stood, [][][]byte{{short}, {long}, {nil, some(20, 17)}}},
		)
	}
	return out
}

// stand is a scene, made anew: its disk, its journal, and the journal's records.
func (s scene) stand(t *testing.T) (*disk.Disk, *journal.Journal, [][]byte) {
	t.Helper()
	places := map[int]image{}
	if s.stood > 0 {
		places[s.n/2*2-1] = image{numbered(s.stood)}
	}
	d := lay(t, s.n, places)
	j, _, e := journal.Open(d)
	var kept [][]byte
	for _, lap := range s.laps {
		kept = lap
		for i, r := range lap {
			if i == 0 {
				e = max(e, j.Start(r))
			} else {
				e = max(e, j.Append(r))
			}
		}
	}
	if e != api.OK {
		t.Fatalf("%s: a call is %d", s.name, e)
	}
	return d, j, kept
}

// broken makes a call in a scene with a fuse, and lets the disk crash with some choices: what is opened behind it must be what was kept, or what the call was to come to. It answers whether the call was OK, and whether it came to what it should.
func (s scene) broken(t *testing.T, start bool, record []byte, fuse int, choices []byte) (bool, bool) {
	t.Helper()
	d, j, kept := s.stand(t)
	whole := append(clone(kept), record)
	call := j.Append
	if start {
		call, whole = j.Start, [][]byte{record}
	}
	d.Fuse(fuse)
	e := call(record)
	if e != api.OK && (e != api.ErrDown || !d.Down() || j.Room() != 0) {
		t.Fatalf("%s, fuse %d: the call is %d, Room %d", s.name, fuse, e, j.Room())
	}
	d.Crash(choices)
	steps := d.Steps()
	if e != api.OK && (call(record) != api.ErrDown || j.Start(nil) != api.ErrDown || d.Steps() != steps) {
		t.Fatalf("%s, fuse %d: it isn't over", s.name, fuse)
	}
	next, records, f := journal.Open(d)
	if f != api.OK || !alike(records, whole) && (e == api.OK || !alike(records, kept)) {
		t.Fatalf("%s, fuse %d, choices %v: the call is %d, and what is opened %v, %d, not %v, nor %v", s.name, fuse, choices, e, records, f, kept, whole)
	}
	goesOn(t, d, next)
	return e == api.OK, alike(records, whole)
}

// goesOn holds a journal that was opened behind a crash to taking two records more.
func goesOn(t *testing.T, d *disk.Disk, j *journal.Journal) {
	t.Helper()
	top := seen(t, d).top()
	a, b := some(60, 21), some(30, 22)
	if e := j.Start(a); e != api.OK || j.Lap() != int(top)+1 || j.Append(b) != api.OK {
		t.Fatalf("behind the crash Start is %d, Lap %d behind %d", e, j.Lap(), top)
	}
	d.Crash([]byte{64, 64, 64})
	if _, records, e := journal.Open(d); e != api.OK || !alike(records, [][]byte{a, b}) {
		t.Fatalf("behind two calls more what is opened is %v, %d", records, e)
	}
}

// everyBreak makes a call with each fuse till it is answered OK, and lets the disk crash behind it with each list of choices; where there is no room for its record, it is left.
func (s scene) everyBreak(t *testing.T, start bool, record []byte, lists [][]byte) {
	t.Helper()
	if _, j, _ := s.stand(t); !start && journal.Parts(len(record)) > j.Room() {
		return
	}
	olds, news := 0, 0
	for fuse, done := 0, false; !done; fuse++ {
		if fuse > 100 {
			t.Fatalf("%s: the call never is OK", s.name)
		}
		for _, choices := range lists {
			ok, whole := s.broken(t, start, record, fuse, choices)
			done = ok
			if whole && !ok {
				news++
			} else if !whole {
				olds++
			}
		}
	}
	if olds == 0 || news == 0 {
		t.Errorf("%s: of the crashes %d left the old records, %d the new ones", s.name, olds, news)
	}
}

// each is all lists of n choices out of some.
func each(n int, of ...byte) [][]byte {
	out := [][]byte{nil}
	for range n {
		var longer [][]byte
		for _, l := range out {
			for _, c := range of {
				longer = append(longer, append(slices.Clone(l), c))
			}
		}
		out = longer
	}
	return out
}

// allChoices is each number of bytes that a choice may keep, and choices that go round.
func allChoices() []byte {
	var out []byte
	for c := range 67 {
		out = append(out, byte(c))
	}
	return append(out, 129, 130, 255)
}

// calls goes through the calls that a scene may have: a Start, and, behind a Start, an Append.
func (s scene) calls(do func(start bool)) {
	do(true)
	if len(s.laps) > 0 {
		do(false)
	}
}

// P13.2: a crash behind each step of a call with one part, that keeps each number of bytes of it.
func TestCrashOfOnePart(t *testing.T) {
	for _, s := range scenes() {
		s.calls(func(start bool) {
			for _, record := range [][]byte{nil, some(1, 1), some(20, 2), some(47, 3)} {
				s.everyBreak(t, start, record, append(each(1, allChoices()...), nil))
			}
		})
	}
}

// P13.2: a crash behind each step of a call with two and three parts, that keeps all, nothing, or each number of bytes of each.
func TestCrashOfParts(t *testing.T) {
	for _, s := range scenes() {
		s.calls(func(start bool) {
			lists := append(each(2, 0, 3, 4, 13, 40, 60, 61, 62, 63, 64), nil)
			for c := range byte(65) {
				lists = append(lists, []byte{c, 64}, []byte{64, c}, []byte{c, c})
			}
			s.everyBreak(t, start, some(94, 4), lists)
			s.everyBreak(t, start, some(48, 5), lists[:101])
			s.everyBreak(t, start, some(100, 6), each(3, 0, 13, 60, 63, 64))
		})
	}
}

// P13.2: a crash in a call with two parts, with each pair of choices.
func TestCrashWithEachPair(t *testing.T) {
	lists := each(2, allChoices()[:65]...)
	for i, s := range scenes() {
		if i == 4 || i == 7+5 {
			s.calls(func(start bool) { s.everyBreak(t, start, some(90, 7), lists) })
		}
	}
}

// P13.2: one crash behind another: parts that the first has left never come together with those of the second.
func TestTwoCrashes(t *testing.T) {
	lists := append(each(3, 0, 13, 64), []byte{63, 63, 63}, []byte{63, 64, 64}, []byte{64, 63, 0})
	for _, ahead := range []bool{false, true} {
		for _, one := range lists {
			for _, two := range lists {
				for fuse := range 4 {
					b := benchOf(t, lay(t, 8, map[int]image{7: {numbered(254)}}))
					if ahead {
						b.start(some(9, 1), api.OK)
					}
					b.fuse(3)
					b.start(some(140, 2), api.ErrDown)
					b.crash(one...)
					b.open()
					b.fuse(fuse)
					b.call(true, some(140, 3))
					b.crash(two...)
					b.open()
					b.call(true, some(140, 4))
					b.call(false, nil)
					b.open()
				}
			}
		}
	}
}

// P13.1: a number that a crash has left at the end of a sector, of the bytes of the laps 100 and FE (base sixteen), counts for the next lap.
func TestTornNumber(t *testing.T) {
	b := benchOf(t, lay(t, 8, map[int]image{0: allLaid(0xFF, some(9, 1)), 4: allLaid(0xFE, some(9, 2))}))
	b.fuse(1)
	b.start(some(9, 3), api.ErrDown)
	b.crash(63)
	b.keeps(some(9, 1))
	b.open()
	b.start(some(9, 4), api.OK)
	b.has(3, 0x1FF)
	b.stands(4, laid(0x1FF, 0, some(9, 4)))
}

// history is what was answered of a journal, and nothing of how it stands on its disk.
type history struct {
	kept    [][]byte
	perhaps [][][]byte // what may be there behind a crash beside that
}

func (h *history) took(start bool, record []byte, e api.Errno) {
	behind := append(slices.Clip(h.kept), record)
	if start {
		behind = [][]byte{record}
	}
	switch e {
	case api.OK:
		h.kept = behind
	case api.ErrDown:
		h.perhaps = append(h.perhaps, behind)
	}
}

// opened settles which records are there.
func (h *history) opened(records [][]byte) bool {
	for _, maybe := range append(h.perhaps, h.kept) {
		if alike(records, maybe) {
			h.kept, h.perhaps = clone(records), nil
			return true
		}
	}
	return false
}

// P13.2: crashes by chance, one behind the other, on a disk that is never made new. No model is asked.
func TestWhole(t *testing.T) {
	r := rand.New(rand.NewSource(133))
	for n := 4; n < 16; n++ {
		d, _ := disk.New(n)
		var h history
		broken, came := 0, 0
		for turn := range 1500 {
			j, records, e := journal.Open(d)
			if len(h.perhaps) > 0 && alike(records, h.perhaps[0]) {
				came++
			}
			if e != api.OK || !h.opened(records) {
				t.Fatalf("%d sectors, turn %d: Open is %v, %d, not %v, nor %v", n, turn, records, e, h.kept, h.perhaps)
			}
			d.Fuse(r.Intn(20))
			for i := 0; !d.Down() && i < 40; i++ {
				record := some(r.Intn(r.Intn(n/2*47)+1), byte(r.Int()))
				start := i == 0 || r.Intn(5) == 0
				call := j.Append
				if start {
					call = j.Start
				}
				h.took(start, record, call(record))
			}
			broken += len(h.perhaps)
			choices := make([]byte, r.Intn(n))
			for i := range choices {
				choices[i] = []byte{0, 63, 64, 64, 64, byte(r.Intn(256))}[r.Intn(6)]
			}
			d.Crash(choices)
		}
		if broken < 1000 || came < 50 || came > broken-50 {
			t.Errorf("%d sectors: %d calls were broken off, and %d of them came", n, broken, came)
		}
	}
}

// P13.3: a call that is refused writes nothing, whatever it is refused for: it does no step, leaves nothing pending, and spends no fuse.
func TestRefusedWritesNothing(t *testing.T) {
	type refused struct {
		name string
		call func(j *journal.Journal) api.Errno
		want api.Errno
	}
	large := func(j *journal.Journal) api.Errno { return j.Start(some(5*47+1, 1)) }
	long := func(j *journal.Journal) api.Errno { return j.Append(some((j.Room()*47)+1, 1)) }
	none := func(j *journal.Journal) api.Errno { return j.Append(nil) }
	for _, s := range scenes() {
		calls := []refused{{"a Start that is too large", large, api.ErrLogFull}}
		if len(s.laps) == 0 {
			calls = append(calls, refused{"an Append ahead of Start", none, api.ErrArg})
		} else {
			calls = append(calls, refused{"an Append that is too long", long, api.ErrLogFull})
		}
		for _, c := range calls {
			for fuse := -1; fuse < 2; fuse++ {
				d, j, kept := s.stand(t)
				before, steps := seen(t, d), d.Steps()
				room, lap := j.Room(), j.Lap()
				d.Fuse(fuse)
				if e := c.call(j); e != c.want || d.Down() || d.Pending() != 0 || d.Steps() != steps || !alike(seen(t, d), before) {
					t.Fatalf("%s, %s: it is %d, Down %v, Pending %d, Steps %d", s.name, c.name, e, d.Down(), d.Pending(), d.Steps()-steps)
				}
				if j.Room() != room || j.Lap() != lap {
					t.Errorf("%s, %s: Room is %d, Lap %d", s.name, c.name, j.Room(), j.Lap())
				}
				d.Fuse(-1)
				if e := j.Start(some(7, 7)); e != api.OK {
					t.Errorf("%s, %s: Start is %d behind it, and %v was there", s.name, c.name, e, kept)
				}
			}
		}
	}
}

// P13.3: a journal that is over writes nothing, also when the disk has crashed and another journal was opened and started there.
func TestOverWritesNothing(t *testing.T) {
	for fuse := range 3 {
		for _, start := range []bool{false, true} {
			b := newBench(t, 8)
			b.start(some(9, 1), api.OK)
			b.fuse(fuse)
			b.call(start, some(60, 2))
			over := b.journal
			b.crash(bytes.Repeat([]byte{byte(64 * (fuse % 2))}, 3)...)
			b.open()
			b.start(some(9, 3), api.OK)
			b.append(some(9, 4), api.OK)
			for _, size := range []int{0, 1, 60, 4 * 47, 1000} {
				steps := b.disk.Steps()
				if over.Start(some(size, 5)) != api.ErrDown || over.Append(some(size, 5)) != api.ErrDown || over.Room() != 0 || over.Lap() != 1 || b.disk.Steps() != steps {
					b.fail("the journal that is over writes, or is %d, %d", over.Room(), over.Lap())
				}
			}
			b.same()
			b.keeps(some(9, 3), some(9, 4))
		}
	}
}

// P13.1: a nil disk's and a small one's errors stand ahead of all; behind a crash each disk opens again.
func TestOpenBehindCrash(t *testing.T) {
	for n := 1; n < 12; n++ {
		d, _ := disk.New(n)
		d.Fuse(0)
		d.Sync()
		for _, down := range []bool{true, false} {
			want := fmt.Sprint(n < 4, n >= 4 && down)
			_, records, e := journal.Open(d)
			if got := fmt.Sprint(e == api.ErrArg, e == api.ErrDown); got != want || len(records) != 0 {
				t.Errorf("%d sectors, down %v: Open is %v, %d", n, down, records, e)
			}
			d.Crash(nil)
		}
	}
}
