package dedupe_test

import (
	"math"
	"math/rand"
	"slices"
	"testing"

	"meridian/api"
	"meridian/dedupe"
)

// P14.1: Load of nothing, nil or empty, leaves no session; and there is room again.
func TestLoadOfNothing(t *testing.T) {
	for _, nothing := range [][]api.Seen{nil, {}, make([]api.Seen, 0, 5), []api.Seen{seen(7, 9, 1, 1)}[:0]} {
		p := newPair(t, 1)
		p.load(true, nothing...)
		p.is()
		p.note(7, 3, 1, 1, true)
		p.look(8, 1, dedupe.Full, api.Pos{})
		p.load(true, nothing...)
		p.is()
		p.look(7, 3, dedupe.Fresh, api.Pos{})
		p.look(7, 2, dedupe.Fresh, api.Pos{})
		p.note(8, 1, 1, 2, true)
		p.note(7, 3, 1, 1, false)
	}
}

// P14.1: Load of a list that rises into a table that has sessions already: those that aren't in the list are gone, those
// that are have what the list tells, also where that is below what they had.
func TestLoad(t *testing.T) {
	p := newPair(t, 3).noteAll(seen(1, 10, 1, 1), seen(2, 20, 1, 2), seen(3, 30, 1, 3))
	p.load(true, seen(2, 5, 7, 8), seen(3, 31, 1, 4))
	p.is(seen(2, 5, 7, 8), seen(3, 31, 1, 4))
	p.look(1, 10, dedupe.Fresh, api.Pos{})
	p.look(2, 5, dedupe.Again, pos(7, 8))
	p.look(2, 6, dedupe.Fresh, api.Pos{})
	p.look(2, 20, dedupe.Fresh, api.Pos{})
	p.look(3, 30, dedupe.Late, api.Pos{})
	p.note(4, 1, 1, 5, true)
	p.note(1, 11, 1, 6, false)
	p.note(2, 6, 1, 7, true)
	p.is(seen(2, 6, 1, 7), seen(3, 31, 1, 4), seen(4, 1, 1, 5))
	p.load(true, seen(-4, 0, 0, 0))
	p.is(seen(-4, 0, 0, 0))
	p.look(-4, 0, dedupe.Again, api.Pos{})
	p.look(-4, -1, dedupe.Late, api.Pos{})
}

// P14.1: Load of a list with a session twice, and of one that falls, at each place, is false and changes nothing; neither
// requests nor positions need rise.
func TestLoadThatDoesntRise(t *testing.T) {
	good := []api.Seen{seen(-5, 1, 1, 1), seen(0, 9, 1, 2), seen(3, 8, 1, 3), seen(4, 8, 1, 2), seen(9, -3, 4, 1)}
	for n := 2; n <= len(good); n++ {
		for i := range n - 1 {
			p := newPair(t, len(good)).noteAll(seen(3, 6, 2, 2), seen(8, 4, 2, 3))
			bad := slices.Clone(good[:n])
			for _, session := range []int{good[i].Session, good[i].Session - 1, math.MinInt} {
				bad[i+1].Session = session
				p.load(false, bad...)
				p.is(seen(3, 6, 2, 2), seen(8, 4, 2, 3))
			}
			p.load(true, good[:n]...)
			p.is(good[:n]...)
			falls := slices.Clone(good[:n])
			slices.Reverse(falls)
			p.load(false, falls...)
			p.load(false, good[i], good[i])
			p.is(good[:n]...)
		}
	}
}

// P14.1: Load of as many as the limit is taken, of one more it is false and changes nothing, whatever number there was.
func TestLoadOfAsManyAsTheLimit(t *testing.T) {
	var many []api.Seen
	for i := range 40 {
		many = append(many, seen(i*2, 7, 1, i))
	}
	for _, limit := range []int{1, 2, 3, api.MaxSessions, 39} {
		for _, had := range []int{0, 1, limit} {
			p := newPair(t, limit)
			for s := range had {
				p.note(s*3+1, 4, 2, s, true)
			}
			before := p.table.All()
			p.load(false, many[:limit+1]...)
			p.load(false, many...)
			p.is(before...)
			p.load(true, many[:limit]...)
			p.is(many[:limit]...)
			p.look(-1, 1, dedupe.Full, api.Pos{})
			p.load(false, many[:limit+1]...)
			p.is(many[:limit]...)
			p.load(true, many[1:limit]...)
			p.look(-1, 1, dedupe.Fresh, api.Pos{})
		}
	}
}

// P14.1: what lies behind a list's length plays no part.
func TestLoadReadsNoSpareRoom(t *testing.T) {
	p := newPair(t, 2)
	l := []api.Seen{seen(5, 1, 1, 1), seen(6, 1, 1, 2), seen(1, 1, 1, 3)}
	p.load(true, l[:2]...)
	p.is(l[:2]...)
	p.load(true, l[:1]...)
	p.is(l[:1]...)
}

// P14.1: a list that was handed in is neither changed nor kept, and one that was answered shares nothing with the table,
// nor with another answer.
func TestNothingIsShared(t *testing.T) {
	want := []api.Seen{seen(2, 5, 1, 1), seen(4, 6, 1, 2), seen(7, 1, 1, 3)}
	room := append(slices.Clone(want), seen(9, 9, 9, 9))
	d := dedupe.New(3)
	if !d.Load(room[:3]) || !slices.Equal(room, append(slices.Clone(want), seen(9, 9, 9, 9))) {
		t.Fatalf("Load leaves %v", room)
	}
	for i := range room {
		room[i] = seen(-1, -1, -1, -1)
	}
	one, two := d.All(), d.All()
	for i := range one {
		one[i] = seen(-2, -2, -2, -2)
	}
	spare := append(one[:0], one[:cap(one)]...)
	for i := range spare {
		spare[i] = seen(-3, -3, -3, -3)
	}
	if !slices.Equal(two, want) || !slices.Equal(d.All(), want) {
		t.Errorf("%v, %v", two, d.All())
	}
	d.Note(4, 7, pos(2, 2))
	if !slices.Equal(two, want) {
		t.Errorf("an answer is %v behind a Note", two)
	}
	d.Load(nil)
	if !slices.Equal(two, want) {
		t.Errorf("an answer is %v behind a Load", two)
	}
	bad := []api.Seen{want[1], want[0]}
	if d.Load(bad); bad[0] != want[1] || bad[1] != want[0] {
		t.Errorf("a refused Load leaves %v", bad)
	}
}

// P14.3: a table that loads what another one told answers as that one, ahead of other calls and behind them; two tables
// have nothing of each other from then on.
func TestLoadOfAll(t *testing.T) {
	r := rand.New(rand.NewSource(143))
	for range 200 {
		limit := 1 + r.Intn(6)
		one, two := dedupe.New(limit), dedupe.New(limit)
		for range r.Intn(30) {
			byChance(r, 8, 10).of(one)
			byChance(r, 8, 10).of(two)
		}
		if !two.Load(one.All()) {
			t.Fatalf("Load(%v) is false, limit %d", one.All(), limit)
		}
		for range 60 {
			alike(t, one, two, 8, 14)
			c := byChance(r, 8, 14)
			if a, b := c.of(one), c.of(two); a != b {
				t.Fatalf("%v is %v and %v", c, a, b)
			}
		}
		alike(t, one, two, 8, 14)
	}
}

// alike holds two tables against each other, in all that they can be asked.
func alike(t *testing.T, one, two *dedupe.Table, sessions, requests int) {
	t.Helper()
	if !slices.Equal(one.All(), two.All()) || one.Len() != two.Len() {
		t.Fatalf("%v, %v", one.All(), two.All())
	}
	for s := range sessions + 1 {
		for r := -1; r <= requests; r++ {
			kind, at := one.Look(s, r)
			if k, a := two.Look(s, r); k != kind || a != at {
				t.Fatalf("Look(%d, %d) is %d, %v and %d, %v", s, r, kind, at, k, a)
			}
		}
	}
}

// P14.3: a table with a greater limit answers as the one whose sessions it loaded wherever that one isn't full; one with a
// smaller limit doesn't load them.
func TestLoadIntoAnotherLimit(t *testing.T) {
	p := newPair(t, 3).noteAll(seen(1, 1, 1, 1), seen(2, 2, 1, 2), seen(3, 3, 1, 3))
	less, more := newPair(t, 2), newPair(t, 4)
	less.load(false, p.table.All()...)
	less.is()
	more.load(true, p.table.All()...)
	more.is(p.table.All()...)
	p.look(9, 1, dedupe.Full, api.Pos{})
	more.look(9, 1, dedupe.Fresh, api.Pos{})
	more.note(9, 1, 1, 4, true)
	more.note(8, 1, 1, 5, false)
	p.is(seen(1, 1, 1, 1), seen(2, 2, 1, 2), seen(3, 3, 1, 3))
}

// P14.1: a table may load what it told itself.
func TestLoadOfItsOwn(t *testing.T) {
	p := newPair(t, 3).noteAll(seen(8, 1, 1, 1), seen(2, 2, 1, 2))
	for range 3 {
		p.load(true, p.table.All()...)
		p.is(seen(2, 2, 1, 2), seen(8, 1, 1, 1))
	}
	p.load(true, p.table.All()[1:]...)
	p.is(seen(8, 1, 1, 1))
}
