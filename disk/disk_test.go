package disk_test

import (
	"bytes"
	"fmt"
	"math"
	"math/rand"
	"slices"
	"testing"

	"meridian/api"
	"meridian/disk"
)

// The exact signatures: another one would not build.
var (
	_ func(int) (*disk.Disk, api.Errno)         = disk.New
	_ func(*disk.Disk, int, []byte) api.Errno   = (*disk.Disk).Write
	_ func(*disk.Disk) api.Errno                = (*disk.Disk).Sync
	_ func(*disk.Disk, int) ([]byte, api.Errno) = (*disk.Disk).Read
	_ func(*disk.Disk, int)                     = (*disk.Disk).Fuse
	_ func(*disk.Disk, []byte)                  = (*disk.Disk).Crash
	_ func(*disk.Disk) int                      = (*disk.Disk).Len
	_ func(*disk.Disk) bool                     = (*disk.Disk).Down
	_ func(*disk.Disk) int                      = (*disk.Disk).Pending
	_ func(*disk.Disk) int64                    = (*disk.Disk).Steps
)

const size = api.SectorSize

// all is a sector whose bytes are all the same.
func all(c byte) []byte { return bytes.Repeat([]byte{c}, size) }

// none is a sector that was never written.
var none = all(0)

// rising is a sector whose bytes rise from a first one on: two with another first byte differ in all their bytes.
func rising(first byte) []byte {
	b := make([]byte, size)
	for i := range b {
		b[i] = first + byte(i)
	}
	return b
}

// torn is the first n bytes of one sector, and behind these what another one has.
func torn(n int, one, other []byte) []byte {
	return slices.Concat(one[:n], other[n:])
}

// P12.1, P12.2: the chapter's example.
func TestExample(t *testing.T) {
	d, e := disk.New(2)
	if e != api.OK {
		t.Fatalf("New is %d", e)
	}
	if e := d.Write(0, all(1)); e != api.OK {
		t.Errorf("Write is %d", e)
	}
	d.Crash([]byte{3})
	if b, e := d.Read(0); e != api.OK || !slices.Equal(b, torn(3, all(1), none)) {
		t.Errorf("sector 0 is %v, %d", b, e)
	}
	if e := d.Write(1, all(2)); e != api.OK {
		t.Errorf("Write is %d", e)
	}
	if e := d.Sync(); e != api.OK {
		t.Errorf("Sync is %d", e)
	}
	d.Crash(nil)
	if b, e := d.Read(1); e != api.OK || !slices.Equal(b, all(2)) {
		t.Errorf("sector 1 is %v, %d", b, e)
	}
	d.Fuse(1)
	if e := d.Write(0, all(3)); e != api.OK {
		t.Errorf("Write is %d", e)
	}
	if e := d.Sync(); e != api.ErrDown {
		t.Errorf("Sync is %d", e)
	}
	if _, e := d.Read(0); e != api.ErrDown || d.Write(0, all(4)) != api.ErrDown || d.Sync() != api.ErrDown || !d.Down() {
		t.Error("the disk isn't down")
	}
	d.Crash(nil)
	if b, e := d.Read(0); e != api.OK || !slices.Equal(b, torn(3, all(1), none)) || d.Down() {
		t.Errorf("sector 0 is %v, %d behind the crash", b, e)
	}
}

// P12.1: New of each number of sectors that may be, of none, of too many, and of numbers below 0.
func TestNew(t *testing.T) {
	for _, n := range []int{0, -1, -2, -64, -4096, -4095, math.MinInt32, math.MinInt + 1, math.MinInt,
		4097, 4098, 8192, 1 << 16, 1<<16 + 1, 1 << 31, 1<<32 + 1, 1<<32 + 4096, api.MaxNumber, math.MaxInt - 1, math.MaxInt} {
		if d, e := disk.New(n); d != nil || e != api.ErrArg {
			t.Errorf("New(%d) is %v, %d", n, d != nil, e)
		}
	}
	for _, n := range []int{1, 2, 3, 4, 5, 8, 63, 64, 65, 255, 256, 257, 4095, 4096} {
		p := newPair(t, n)
		p.is(false, 0, 0)
		for i := range n {
			p.reads(i, none)
		}
		for _, i := range []int{-1, n, n + 1, -n, math.MinInt, math.MaxInt} {
			p.refuses(i, api.ErrArg)
		}
	}
}

// P12.1: each sector is one of its own, the first one and the last one too.
func TestSectors(t *testing.T) {
	for _, n := range []int{1, 2, 5, 64, 4095, 4096} {
		d, _ := disk.New(n)
		content := func(i, turn int) []byte { return rising(byte(i + i/256*7 + turn)) }
		for turn := range 3 {
			for i := range n {
				if e := d.Write(i, content(i, turn)); e != api.OK {
					t.Fatalf("%d sectors: Write of %d is %d", n, i, e)
				}
			}
			if d.Pending() != n || d.Len() != n {
				t.Errorf("%d sectors: Pending is %d, Len %d", n, d.Pending(), d.Len())
			}
			for i := range n {
				if b, e := d.Read(i); e != api.OK || !slices.Equal(b, content(i, turn)) {
					t.Fatalf("%d sectors: Read of %d is %v, %d", n, i, b, e)
				}
			}
			if e := d.Sync(); e != api.OK || d.Pending() != 0 {
				t.Errorf("%d sectors: Sync is %d, Pending %d", n, e, d.Pending())
			}
		}
		d.Crash(nil)
		for i := range n {
			if b, e := d.Read(i); e != api.OK || !slices.Equal(b, content(i, 2)) {
				t.Fatalf("%d sectors: Read of %d is %v, %d behind a crash", n, i, b, e)
			}
		}
		if d.Steps() != int64(3*n+3) {
			t.Errorf("%d sectors: Steps is %d", n, d.Steps())
		}
	}
}

// wrongWrites are calls of Write that answer ErrArg, of a disk with n sectors.
func wrongWrites(n int) []call {
	var out []call
	for _, i := range []int{-1, -2, -n, n, n + 1, 64 * n, 1 << 31, 1 << 32, 1<<32 + 1, math.MaxInt, math.MinInt} {
		for _, b := range [][]byte{rising(1), nil, all(0)[:63], make([]byte, 65)} {
			out = append(out, call{kind: isWrite, n: i, bytes: b})
		}
	}
	for _, size := range []int{0, 1, 2, 32, 62, 63, 65, 66, 127, 128, 129, 256 + 64, 65536 + 64} {
		for i := range n {
			out = append(out, call{kind: isWrite, n: i, bytes: bytes.Repeat([]byte{9}, size)})
		}
	}
	return append(out, call{kind: isWrite}, call{kind: isWrite, n: n - 1, bytes: []byte{}})
}

// P12.1: Write of a sector that isn't there, or of more or fewer bytes than a sector's, is ErrArg, changes nothing, is no step and spends no fuse.
func TestWrongWrites(t *testing.T) {
	for _, n := range []int{1, 2, 5} {
		p := newPair(t, n)
		p.write(n-1, rising(5), api.OK)
		p.sync(api.OK)
		p.write(0, rising(6), api.OK)
		for _, c := range wrongWrites(n) {
			p.write(c.n, c.bytes, api.ErrArg)
		}
		p.is(false, 1, 3)
		p.reads(0, rising(6))
		p.fuse(1)
		for _, c := range wrongWrites(n) {
			p.write(c.n, c.bytes, api.ErrArg)
		}
		p.is(false, 1, 3)
		p.write(0, rising(7), api.OK)
		for _, c := range wrongWrites(n) {
			p.write(c.n, c.bytes, api.ErrArg)
		}
		p.is(false, 2, 4)
		p.reads(0, rising(7))
		p.sync(api.ErrDown)
		p.is(true, 2, 4)
	}
}

// P12.1: ErrArg comes ahead of ErrDown, in Write and in Read, also where the fuse is spent and the disk not down yet.
func TestArgAheadOfDown(t *testing.T) {
	for _, n := range []int{1, 2, 5} {
		p := newPair(t, n)
		p.fuse(0)
		for _, c := range wrongWrites(n) {
			p.write(c.n, c.bytes, api.ErrArg)
			p.refuses(-1, api.ErrArg)
			p.refuses(n, api.ErrArg)
		}
		p.is(false, 0, 0)
		p.write(0, rising(1), api.ErrDown)
		p.is(true, 0, 0)
		for _, c := range wrongWrites(n) {
			p.write(c.n, c.bytes, api.ErrArg)
		}
		for i := range n {
			p.write(i, rising(1), api.ErrDown)
			p.refuses(i, api.ErrDown)
		}
		for _, i := range []int{-1, n, n + 1, math.MaxInt, math.MinInt} {
			p.refuses(i, api.ErrArg)
		}
		p.is(true, 0, 0)
		p.crash()
		p.is(false, 0, 0)
		p.write(0, rising(1), api.OK)
	}
}

// P12.1: what is read has what is pending, what was synced, and 0 where nothing was ever written.
func TestRead(t *testing.T) {
	p := newPair(t, 3)
	p.write(1, rising(1), api.OK)
	p.reads(0, none)
	p.reads(1, rising(1))
	p.reads(2, none)
	p.sync(api.OK)
	p.reads(0, none)
	p.reads(1, rising(1))
	p.write(1, rising(2), api.OK)
	p.write(2, rising(3), api.OK)
	p.write(2, rising(4), api.OK)
	p.write(2, rising(5), api.OK)
	p.is(false, 4, 6)
	p.reads(0, none)
	p.reads(1, rising(2))
	p.reads(2, rising(5))
	p.sync(api.OK)
	p.sync(api.OK)
	p.is(false, 0, 8)
	p.reads(1, rising(2))
	p.reads(2, rising(5))
	p.crash()
	p.reads(0, none)
	p.reads(1, rising(2))
	p.reads(2, rising(5))
	p.is(false, 0, 8)
}

// P12.1, P12.2: a crash keeps of a pending write as many first bytes as its choice tells, modulo 65, for each choice that a byte can be.
func TestChoices(t *testing.T) {
	for c, want := range map[byte]int{0: 0, 1: 1, 63: 63, 64: 64, 65: 0, 66: 1, 129: 64, 130: 0, 255: 60} {
		p := newPair(t, 1)
		p.write(0, rising(1), api.OK)
		p.crash(c)
		p.reads(0, torn(want, rising(1), none))
	}
	for c := range 256 {
		keeps := c
		for keeps >= 65 {
			keeps -= 65
		}
		p := newPair(t, 2)
		p.write(0, rising(1), api.OK)
		p.sync(api.OK)
		p.write(0, rising(2), api.OK)
		p.write(1, rising(3), api.OK)
		p.crash(byte(c))
		p.reads(0, torn(keeps, rising(2), rising(1)))
		p.reads(1, none)
		p.is(false, 0, 4)
		p.write(1, rising(4), api.OK)
		p.write(0, rising(5), api.OK)
		p.crash(64, byte(c))
		p.reads(0, torn(keeps, rising(5), torn(keeps, rising(2), rising(1))))
		p.reads(1, rising(4))
	}
}

// P12.1: the choices are taken in the order of the writes: with none, with fewer than there are pending writes (0 for the others), with as many, and with more.
func TestHowManyChoices(t *testing.T) {
	choices := []byte{5, 64, 0, 1, 129, 63, 200, 66}
	for pending := range 6 {
		for handed := range len(choices) + 1 {
			p := newPair(t, 6)
			for i := range 6 {
				p.write(5-i, rising(byte(10*i)), api.OK)
			}
			p.sync(api.OK)
			for i := range pending {
				p.write(i, rising(byte(100+10*i)), api.OK)
			}
			p.crash(choices[:handed]...)
			for i := range 6 {
				keeps := 0
				if i < pending && i < handed {
					keeps = []int{5, 64, 0, 1, 64, 63}[i]
				}
				p.reads(i, torn(keeps, rising(byte(100+10*i)), rising(byte(10*(5-i)))))
			}
			p.is(false, 0, int64(7+pending))
		}
	}
}

// P12.1: what lies behind the choices' length isn't read.
func TestChoicesEnd(t *testing.T) {
	p := newPair(t, 2)
	p.write(0, rising(1), api.OK)
	p.write(1, rising(2), api.OK)
	room := []byte{64, 64, 64}
	p.crash(room[:1]...)
	p.reads(0, rising(1))
	p.reads(1, none)
}

// P12.1, P12.2: several pending writes of one sector are laid one over what the other left.
func TestSeveralOfOneSector(t *testing.T) {
	p := newPair(t, 2)
	p.write(0, rising(1), api.OK)
	p.sync(api.OK)
	p.write(0, rising(2), api.OK)
	p.write(0, rising(3), api.OK)
	p.write(0, rising(4), api.OK)
	p.is(false, 3, 5)
	p.reads(0, rising(4))
	p.crash(40, 10, 3)
	p.reads(0, torn(3, rising(4), torn(10, rising(3), torn(40, rising(2), rising(1)))))
	p.write(0, rising(5), api.OK)
	p.write(0, rising(6), api.OK)
	p.crash(3, 20)
	p.reads(0, torn(20, rising(6), torn(40, rising(2), rising(1))))
	p.crash(64, 64)
	p.reads(0, torn(20, rising(6), torn(40, rising(2), rising(1))))
	sizes := []int{0, 1, 2, 31, 63, 64}
	for _, a := range sizes {
		for _, b := range sizes {
			for _, c := range sizes {
				p := newPair(t, 1)
				p.write(0, rising(200), api.OK)
				p.sync(api.OK)
				for i := range 3 {
					p.write(0, rising(byte(10*i)), api.OK)
				}
				p.crash(byte(a), byte(b+65), byte(c+130))
				p.reads(0, torn(c, rising(20), torn(b, rising(10), torn(a, rising(0), rising(200)))))
			}
		}
	}
}

// P12.1: a write between two others of the same sector, of another one, takes a choice of its own.
func TestMixedSectors(t *testing.T) {
	p := newPair(t, 3)
	p.write(2, rising(1), api.OK)
	p.write(0, rising(2), api.OK)
	p.write(2, rising(3), api.OK)
	p.write(1, rising(4), api.OK)
	p.write(0, rising(5), api.OK)
	p.crash(50, 7, 8, 9, 1)
	p.reads(0, torn(1, rising(5), torn(7, rising(2), none)))
	p.reads(1, torn(9, rising(4), none))
	p.reads(2, torn(8, rising(3), torn(50, rising(1), none)))
}

// P12.1: a fuse of each number of steps lets just these be done, Writes and Syncs alike; so does one that is set anew on the way.
func TestFuse(t *testing.T) {
	for n := range 6 {
		for syncs := range 1 << 6 {
			p := newPair(t, 2)
			p.write(1, rising(9), api.OK)
			p.fuse(n)
			p.is(false, 1, 1)
			step := func(i int, want api.Errno) {
				t.Helper()
				if syncs>>i&1 == 1 {
					p.sync(want)
				} else {
					p.write(i%2, rising(byte(i)), want)
				}
			}
			for i := range n {
				step(i, api.OK)
				p.is(false, p.disk.Pending(), int64(i+2))
			}
			pending := p.disk.Pending()
			step(n, api.ErrDown)
			p.is(true, pending, int64(n+1))
			p.refuses(0, api.ErrDown)
			p.sync(api.ErrDown)
			p.write(0, rising(1), api.ErrDown)
			p.is(true, pending, int64(n+1))
			p.crash()
			p.is(false, 0, int64(n+1))
			for i := range 6 {
				step(i, api.OK)
			}
		}
	}
}

// P12.1: a fuse of as many steps as are done leaves the disk up; of one fewer, the last of them isn't done.
func TestFuseOfJustSoMany(t *testing.T) {
	for n := 1; n < 70; n++ {
		for fewer := range 2 {
			p := newPair(t, 1)
			p.fuse(n - fewer)
			for i := range n - 1 {
				p.write(0, rising(byte(i)), api.OK)
			}
			if fewer == 1 {
				p.write(0, rising(200), api.ErrDown)
				p.is(true, n-1, int64(n-1))
				p.crash(bytes.Repeat([]byte{64}, n)...)
				p.is(false, 0, int64(n-1))
				continue
			}
			p.write(0, rising(200), api.OK)
			p.is(false, n, int64(n))
			p.reads(0, rising(200))
			p.sync(api.ErrDown)
			p.is(true, n, int64(n))
		}
	}
}

// P12.1: a fuse of a number below 0 is none, also where there was one; each new one takes the old one's place.
func TestFuseAnew(t *testing.T) {
	below := []int{-1, -2, -64, math.MinInt32, -1 << 32, math.MinInt + 1, math.MinInt}
	for _, n := range below {
		p := newPair(t, 1)
		p.fuse(n)
		for i := range 20 {
			p.write(0, rising(byte(i)), api.OK)
			p.sync(api.OK)
		}
		p.is(false, 0, 40)
		for _, first := range []int{0, 1, 5} {
			p = newPair(t, 1)
			p.fuse(first)
			for range first {
				p.sync(api.OK)
			}
			p.fuse(n)
			for range 10 {
				p.sync(api.OK)
			}
			p.is(false, 0, int64(first+10))
		}
	}
	for first := range 4 {
		for done := range first + 1 {
			for second := range 5 {
				p := newPair(t, 1)
				p.fuse(first)
				for range done {
					p.sync(api.OK)
				}
				p.fuse(second)
				for range second {
					p.write(0, rising(1), api.OK)
				}
				p.is(false, second, int64(done+second))
				p.sync(api.ErrDown)
				p.is(true, second, int64(done+second))
			}
		}
	}
}

// P12.1: the greatest fuses are as good as none for as long as anybody may count.
func TestGreatFuses(t *testing.T) {
	for _, n := range []int{255, 256, 257, 1 << 16, 1 << 31, 1 << 32, 1<<32 + 1, api.MaxNumber, math.MaxInt - 1, math.MaxInt} {
		p := newPair(t, 1)
		p.sync(api.OK)
		p.fuse(n)
		for i := range 100 {
			p.write(0, rising(byte(i)), api.OK)
			p.sync(api.OK)
		}
		p.is(false, 0, 201)
		p.fuse(0)
		p.sync(api.ErrDown)
	}
	d, _ := disk.New(1)
	for _, n := range []int{255, 256, 257, 65535, 65536, 65537} {
		at := d.Steps()
		d.Fuse(n)
		for range n {
			if e := d.Sync(); e != api.OK {
				t.Fatalf("Fuse(%d): Sync is %d", n, e)
			}
		}
		if e := d.Sync(); e != api.ErrDown || !d.Down() || d.Steps() != at+int64(n) {
			t.Errorf("Fuse(%d): Sync is %d, Down %v, Steps %d", n, e, d.Down(), d.Steps())
		}
		d.Crash(nil)
	}
}

// P12.1: a disk that is down stays so whatever fuse is set, till it crashes; and that fuse is gone then, too.
func TestFuseOfADownDisk(t *testing.T) {
	for _, n := range []int{-1, 0, 1, 2, 10, math.MaxInt, math.MinInt} {
		p := newPair(t, 1)
		p.write(0, rising(1), api.OK)
		p.fuse(0)
		p.sync(api.ErrDown)
		p.fuse(n)
		p.is(true, 1, 1)
		p.sync(api.ErrDown)
		p.write(0, rising(2), api.ErrDown)
		p.refuses(0, api.ErrDown)
		p.is(true, 1, 1)
		p.crash(64)
		p.is(false, 0, 1)
		p.reads(0, rising(1))
		for range 15 {
			p.sync(api.OK)
		}
		p.is(false, 0, 16)
	}
}

// P12.1: a step that a fuse refuses changes nothing but that the disk is down: the Write isn't pending, and the Sync keeps nothing.
func TestRefusedSteps(t *testing.T) {
	for _, sync := range []bool{false, true} {
		p := newPair(t, 2)
		p.write(0, rising(1), api.OK)
		p.sync(api.OK)
		p.write(0, rising(2), api.OK)
		p.write(1, rising(3), api.OK)
		p.fuse(0)
		if sync {
			p.sync(api.ErrDown)
		} else {
			p.write(1, rising(4), api.ErrDown)
		}
		p.is(true, 2, 4)
		p.crash(10, 20, 64)
		p.reads(0, torn(10, rising(2), rising(1)))
		p.reads(1, torn(20, rising(3), none))
		p.is(false, 0, 4)
	}
}

// P12.1: behind a Crash nothing is pending, the disk isn't down and has no fuse, whatever was ahead of it.
func TestCrash(t *testing.T) {
	up := func(p *pair, steps int64) {
		t.Helper()
		p.is(false, 0, steps)
		for i := range 10 {
			p.write(0, rising(byte(i)), api.OK)
			p.sync(api.OK)
		}
		p.is(false, 0, steps+20)
	}
	for _, choices := range [][]byte{nil, {}, {0}, {64}, {1, 2, 3}} {
		p := newPair(t, 2)
		p.crash(choices...)
		p.reads(0, none)
		p.reads(1, none)
		up(p, 0)
		p.crash(choices...)
		p.reads(0, rising(9))
		up(p, 20)
		for fuse := range 4 {
			p = newPair(t, 2)
			p.write(1, rising(1), api.OK)
			p.fuse(fuse)
			for range fuse / 2 {
				p.write(1, rising(2), api.OK)
			}
			p.crash(choices...)
			up(p, int64(1+fuse/2))
		}
		p = newPair(t, 2)
		p.fuse(0)
		p.sync(api.ErrDown)
		p.crash(choices...)
		up(p, 0)
		p.crash(choices...)
		p.crash(choices...)
		up(p, 20)
	}
}

// P12.1: a slice that is handed to Write is neither changed nor kept, spare room included.
func TestWriteKeepsNoSlice(t *testing.T) {
	room := slices.Concat(rising(1), all(77))
	b := room[:size]
	p := newPair(t, 2)
	p.write(0, b, api.OK)
	if !slices.Equal(room, slices.Concat(rising(1), all(77))) {
		t.Errorf("Write changed its bytes to %v", room)
	}
	spoil := func(c byte) {
		for i := range room {
			room[i] = c
		}
	}
	spoil(5)
	p.reads(0, rising(1))
	p.write(1, b, api.OK)
	spoil(6)
	p.reads(1, all(5))
	p.crash(64, 32)
	p.reads(0, rising(1))
	p.reads(1, torn(32, all(5), none))
	p.write(0, b, api.OK)
	p.sync(api.OK)
	spoil(7)
	p.reads(0, all(6))
	if !slices.Equal(room, slices.Concat(all(7), all(7))) {
		t.Errorf("the bytes that were handed in are %v", room)
	}
	p.crash()
	p.reads(0, all(6))
}

// P12.1: a slice that Read answered is the caller's, spare room too, and stays as it was behind all later calls.
func TestReadIsTheCallers(t *testing.T) {
	spoil := func(b []byte) {
		b = b[:cap(b)]
		for i := range b {
			b[i] = 99
		}
	}
	p := newPair(t, 2)
	p.write(0, rising(1), api.OK)
	p.write(1, rising(2), api.OK)
	one, _ := p.disk.Read(0)
	other, _ := p.disk.Read(0)
	last, _ := p.disk.Read(1)
	spoil(one)
	if !slices.Equal(other, rising(1)) || !slices.Equal(last, rising(2)) {
		t.Errorf("other answers are %v, %v", other, last)
	}
	p.reads(0, rising(1))
	p.reads(1, rising(2))
	p.write(0, rising(3), api.OK)
	p.sync(api.OK)
	p.write(0, rising(4), api.OK)
	p.crash(20)
	if !slices.Equal(other, rising(1)) {
		t.Errorf("the answer is %v behind later calls", other)
	}
	spoil(other)
	spoil(last)
	p.reads(0, torn(20, rising(4), rising(3)))
	p.reads(1, rising(2))
	synced, _ := p.disk.Read(1)
	spoil(synced)
	p.reads(1, rising(2))
	p.crash()
	p.reads(1, rising(2))
}

// P12.1: the choices that are handed to Crash are neither changed nor kept.
func TestCrashKeepsNoSlice(t *testing.T) {
	room := []byte{66, 200, 3, 64, 64}
	choices := room[:3]
	p := newPair(t, 1)
	p.write(0, rising(1), api.OK)
	p.disk.Crash(choices)
	p.model.crash(choices)
	p.same()
	if !slices.Equal(room, []byte{66, 200, 3, 64, 64}) {
		t.Errorf("Crash changed its choices to %v", room)
	}
	for i := range room {
		room[i] = 64
	}
	p.same()
	p.write(0, rising(2), api.OK)
	p.crash()
	p.reads(0, torn(1, rising(1), none))
}

// P12.1: two disks have nothing in common.
func TestTwoDisks(t *testing.T) {
	p, q := newPair(t, 2), newPair(t, 2)
	p.write(0, rising(1), api.OK)
	p.sync(api.OK)
	q.same()
	q.fuse(0)
	q.sync(api.ErrDown)
	p.same()
	q.crash()
	q.write(0, rising(2), api.OK)
	p.write(0, rising(3), api.OK)
	q.crash(30)
	p.same()
	p.crash()
	q.same()
	p.reads(0, rising(1))
	q.reads(0, torn(30, rising(2), none))
}

// P12.1: a nil disk has no sectors, and is down.
func TestNil(t *testing.T) {
	var d *disk.Disk
	for range 2 {
		if d.Len() != 0 || !d.Down() || d.Pending() != 0 || d.Steps() != 0 {
			t.Errorf("Len %d, Down %v, Pending %d, Steps %d", d.Len(), d.Down(), d.Pending(), d.Steps())
		}
		for _, i := range []int{-1, 0, 1, math.MaxInt, math.MinInt} {
			for _, b := range [][]byte{nil, rising(1)[:63], rising(1), make([]byte, 65)} {
				if e := d.Write(i, b); e != api.ErrArg {
					t.Errorf("Write(%d, %d bytes) is %d", i, len(b), e)
				}
			}
			if b, e := d.Read(i); len(b) != 0 || e != api.ErrArg {
				t.Errorf("Read(%d) is %v, %d", i, b, e)
			}
		}
		if e := d.Sync(); e != api.ErrDown {
			t.Errorf("Sync is %d", e)
		}
		for _, n := range []int{-1, 0, 1, math.MaxInt} {
			d.Fuse(n)
		}
		d.Crash(nil)
		d.Crash([]byte{1, 64, 255})
	}
}

// fewCalls are calls that come to all that a small disk can be.
func fewCalls() []call {
	return []call{
		{kind: isWrite, n: 0, bytes: rising(1)},
		{kind: isWrite, n: 0, bytes: rising(70)},
		{kind: isWrite, n: 1, bytes: rising(140)},
		{kind: isWrite, n: 2, bytes: rising(1)},
		{kind: isSync},
		{kind: isFuse, n: -1},
		{kind: isFuse, n: 0},
		{kind: isFuse, n: 2},
		{kind: isCrash},
		{kind: isCrash, bytes: []byte{60, 67, 64}},
	}
}

// P12.1: each run of five of a few calls.
func TestRunsOfFewCalls(t *testing.T) {
	calls := fewCalls()
	for run := range 100000 {
		p := newPair(t, 2)
		for range 5 {
			p.do(calls[run%10])
			run /= 10
		}
	}
}

// chance is a call by chance to a disk of n sectors.
func chance(r *rand.Rand, n int) call {
	switch r.Intn(24) {
	case 0, 1, 2:
		return call{kind: isSync}
	case 3:
		return call{kind: isFuse, n: r.Intn(14) - 2}
	case 4, 5:
		choices := make([]byte, r.Intn(9))
		r.Read(choices)
		return call{kind: isCrash, bytes: choices}
	case 6:
		return call{kind: isWrite, n: r.Intn(n+4) - 2, bytes: make([]byte, []int{0, 1, 63, 64, 65, 128}[r.Intn(6)])}
	}
	b := make([]byte, size)
	r.Read(b)
	return call{kind: isWrite, n: r.Intn(n), bytes: b}
}

// P12.1, P12.2: calls by chance.
func TestByChance(t *testing.T) {
	r := rand.New(rand.NewSource(120))
	for range 300 {
		n := 1 + r.Intn(6)
		p := newPair(t, n)
		for range 150 {
			p.do(chance(r, n))
		}
	}
}

// P12.2: what was synced, and not written since, is there behind any crash; of what was pending each byte is the old one or a new one, the new ones ahead of the old ones. No model is asked.
func TestWhatACrashLeaves(t *testing.T) {
	r := rand.New(rand.NewSource(122))
	const n = 4
	d, _ := disk.New(n)
	synced := make([][]byte, n)
	for i := range synced {
		synced[i] = none
	}
	for turn := range 3000 {
		var since [n][][]byte // what was written since the last Sync, by sector
		if r.Intn(3) == 0 {
			d.Fuse(r.Intn(10))
		}
		for !d.Down() && r.Intn(12) > 0 {
			if r.Intn(6) == 0 {
				if d.Sync() == api.OK {
					for i := range since {
						if k := len(since[i]); k > 0 {
							synced[i], since[i] = since[i][k-1], nil
						}
					}
				}
				continue
			}
			i, b := r.Intn(n), rising(byte(turn*16+r.Intn(16)))
			if d.Write(i, b) == api.OK {
				since[i] = append(since[i], b)
			}
		}
		choices := make([]byte, r.Intn(12))
		r.Read(choices)
		d.Crash(choices)
		for i := range n {
			b, e := d.Read(i)
			if e != api.OK {
				t.Fatalf("turn %d: Read(%d) is %d", turn, i, e)
			}
			if what := fault(b, synced[i], since[i]); what != "" {
				t.Fatalf("turn %d: sector %d is %v: %s; it was %v, and since then %v", turn, i, b, what, synced[i], since[i])
			}
			synced[i] = b
		}
	}
}

// fault tells what is wrong with a sector behind a crash that had an old one, and new ones pending: going back from its last byte, each byte must be the same one's as the byte behind it, or that of a newer one.
func fault(b, old []byte, since [][]byte) string {
	versions := slices.Concat([][]byte{old}, since)
	at := len(b) - 1
	for _, v := range versions {
		for at >= 0 && b[at] == v[at] {
			at--
		}
	}
	if at >= 0 {
		return fmt.Sprintf("the byte %d is neither an old one nor a new one, or an older one than that behind it", at)
	}
	return ""
}
