package disk_test

import (
	"fmt"
	"slices"
	"testing"

	"meridian/api"
	"meridian/disk"
)

// laid is a write, and how many of its first bytes hold: all while it is pending, and when it was synced.
type laid struct {
	place, holds int
	bytes        [64]byte
}

// model keeps each write that was ever done, and works out from all of them what a sector has.
type model struct {
	n       int
	writes  []laid
	settled int // so many of the writes aren't pending
	done    int
	fused   bool
	fuse    int // this many steps may be done behind the first fusedAt
	fusedAt int
	down    bool
}

func (m *model) refuses() bool {
	if m.fused && m.done-m.fusedAt >= m.fuse {
		m.down = true
	}
	return m.down
}

func (m *model) write(i int, b []byte) api.Errno {
	switch {
	case i < 0, i >= m.n, len(b) < 64, len(b) > 64:
		return api.ErrArg
	case m.refuses():
		return api.ErrDown
	}
	l := laid{place: i, holds: 64}
	copy(l.bytes[:], b)
	m.writes = append(m.writes, l)
	m.done++
	return api.OK
}

func (m *model) sync() api.Errno {
	if m.refuses() {
		return api.ErrDown
	}
	m.settled = len(m.writes)
	m.done++
	return api.OK
}

// has is a sector: each of its bytes is that of the last write that holds there.
func (m *model) has(i int) []byte {
	out := make([]byte, 64)
	for at := range out {
		for _, l := range m.writes {
			if l.place == i && at < l.holds {
				out[at] = l.bytes[at]
			}
		}
	}
	return out
}

func (m *model) read(i int) ([]byte, api.Errno) {
	if i < 0 || i >= m.n {
		return nil, api.ErrArg
	}
	if m.down {
		return nil, api.ErrDown
	}
	return m.has(i), api.OK
}

func (m *model) setFuse(n int) { m.fused, m.fuse, m.fusedAt = n >= 0, n, m.done }

func (m *model) crash(choices []byte) {
	for m.settled < len(m.writes) {
		c := 0
		if len(choices) > 0 {
			c, choices = int(choices[0]), choices[1:]
		}
		for c > 64 {
			c -= 65
		}
		m.writes[m.settled].holds = c
		m.settled++
	}
	m.fused, m.down = false, false
}

// The kinds of calls that change a disk.
const (
	isWrite = iota
	isSync
	isFuse
	isCrash
)

// call is a Write of n, a Sync, a Fuse of n, or a Crash with choices.
type call struct {
	kind, n int
	bytes   []byte
}

func (c call) String() string {
	switch c.kind {
	case isWrite:
		return fmt.Sprintf("Write(%d, %d bytes %.3v)", c.n, len(c.bytes), c.bytes[:min(len(c.bytes), 3)])
	case isSync:
		return "Sync()"
	case isFuse:
		return fmt.Sprintf("Fuse(%d)", c.n)
	}
	return fmt.Sprintf("Crash(%v)", c.bytes)
}

// pair is a disk and the model of it, to which each call is made at once.
type pair struct {
	t     *testing.T
	disk  *disk.Disk
	model *model
	calls []call
}

func newPair(t *testing.T, n int) *pair {
	t.Helper()
	d, e := disk.New(n)
	p := &pair{t: t, disk: d, model: &model{n: n}}
	if d == nil || e != api.OK {
		p.fail("New is %v, %d", d, e)
	}
	p.same()
	return p
}

// fail tells the last calls with what was wrong behind them.
func (p *pair) fail(form string, args ...any) {
	p.t.Helper()
	late := p.calls[max(len(p.calls)-12, 0):]
	p.t.Fatalf("%d sectors, %d calls, of which the last %v: %s", p.model.n, len(p.calls), late, fmt.Sprintf(form, args...))
}

// same holds all that can be asked without a change to the model: the numbers, and, of a disk with few sectors, Read of each and of those next to them.
func (p *pair) same() {
	p.t.Helper()
	p.numbers()
	if p.model.n > 8 {
		return
	}
	for i := -1; i <= p.model.n; i++ {
		p.read(i)
	}
	p.numbers()
}

func (p *pair) numbers() {
	p.t.Helper()
	d, m := p.disk, p.model
	if d.Len() != m.n || d.Down() != m.down || d.Pending() != len(m.writes)-m.settled || d.Steps() != int64(m.done) {
		p.fail("Len %d, Down %v, Pending %d, Steps %d, not %d, %v, %d, %d", d.Len(), d.Down(), d.Pending(), d.Steps(), m.n, m.down, len(m.writes)-m.settled, m.done)
	}
}

func (p *pair) read(i int) {
	p.t.Helper()
	b, e := p.disk.Read(i)
	want, f := p.model.read(i)
	if !slices.Equal(b, want) || e != f {
		p.fail("Read(%d) is %v, %d, not %v, %d", i, b, e, want, f)
	}
}

// do makes a call, and holds its answer, and what can be asked behind it, to the model.
func (p *pair) do(c call) api.Errno {
	p.t.Helper()
	p.calls = append(p.calls, c)
	got, want := api.OK, api.OK
	switch c.kind {
	case isWrite:
		got, want = p.disk.Write(c.n, c.bytes), p.model.write(c.n, c.bytes)
	case isSync:
		got, want = p.disk.Sync(), p.model.sync()
	case isFuse:
		p.disk.Fuse(c.n)
		p.model.setFuse(c.n)
	case isCrash:
		p.disk.Crash(c.bytes)
		p.model.crash(c.bytes)
	}
	if got != want {
		p.fail("is %d, not %d", got, want)
	}
	p.same()
	return got
}

// The calls whose answers a test tells in plain words.

func (p *pair) write(i int, b []byte, want api.Errno) {
	p.t.Helper()
	if e := p.do(call{kind: isWrite, n: i, bytes: b}); e != want {
		p.fail("is %d, and not %d", e, want)
	}
}

func (p *pair) sync(want api.Errno) {
	p.t.Helper()
	if e := p.do(call{kind: isSync}); e != want {
		p.fail("is %d, and not %d", e, want)
	}
}

func (p *pair) fuse(n int) {
	p.t.Helper()
	p.do(call{kind: isFuse, n: n})
}

func (p *pair) crash(choices ...byte) {
	p.t.Helper()
	p.do(call{kind: isCrash, bytes: choices})
}

// is holds a disk to whether it is down, how many writes are pending, and how many steps were done.
func (p *pair) is(down bool, pending int, steps int64) {
	p.t.Helper()
	d := p.disk
	if d.Down() != down || d.Pending() != pending || d.Steps() != steps || d.Len() != p.model.n {
		p.fail("Len %d, Down %v, Pending %d, Steps %d", d.Len(), d.Down(), d.Pending(), d.Steps())
	}
}

// reads holds a sector to its bytes.
func (p *pair) reads(i int, want []byte) {
	p.t.Helper()
	if b, e := p.disk.Read(i); !slices.Equal(b, want) || e != api.OK {
		p.fail("Read(%d) is %v, %d, and not %v", i, b, e, want)
	}
}

// refuses holds a Read to its error.
func (p *pair) refuses(i int, want api.Errno) {
	p.t.Helper()
	if b, e := p.disk.Read(i); len(b) != 0 || e != want {
		p.fail("Read(%d) is %v, %d, and not %d", i, b, e, want)
	}
}
