package dedupe_test

import (
	"math"
	"math/rand"
	"slices"
	"testing"

	"meridian/api"
	"meridian/dedupe"
)

// The chapter's functions, by their signatures.
var (
	_ func(int) *dedupe.Table                      = dedupe.New
	_ func(*dedupe.Table, int, int) (int, api.Pos) = (*dedupe.Table).Look
	_ func(*dedupe.Table, int, int, api.Pos) bool  = (*dedupe.Table).Note
	_ func(*dedupe.Table) []api.Seen               = (*dedupe.Table).All
	_ func(*dedupe.Table) int                      = (*dedupe.Table).Len
	_ func(*dedupe.Table, []api.Seen) bool         = (*dedupe.Table).Load
	_                                              = [5]struct{}{dedupe.Fresh: {}, dedupe.Again: {}, dedupe.Late: {}, dedupe.Full: {}}
)

// edges is numbers at the ends of what an int holds, and about 0.
var edges = []int{math.MinInt, math.MinInt + 1, -1 << 32, -8, -1, 0, 1, 2, 7, 1 << 31, 1 << 32, api.MaxNumber, api.MaxNumber + 1, math.MaxInt - 1, math.MaxInt}

// P14.1: what a Look comes to is the chapter's numbers.
func TestNumbers(t *testing.T) {
	if dedupe.Fresh != 1 || dedupe.Again != 2 || dedupe.Late != 3 || dedupe.Full != 4 {
		t.Error(dedupe.Fresh, dedupe.Again, dedupe.Late, dedupe.Full)
	}
}

// P14.1: the chapter's example.
func TestExample(t *testing.T) {
	p := newPair(t, 1)
	p.note(7, 3, 1, 1, true)
	p.look(7, 3, dedupe.Again, pos(1, 1))
	p.look(7, 2, dedupe.Late, api.Pos{})
	p.look(7, 4, dedupe.Fresh, api.Pos{})
	p.look(8, 1, dedupe.Full, api.Pos{})
}

// P14.1: New of a limit below 1: there is no session ever, and each is Full.
func TestNoRoom(t *testing.T) {
	for _, limit := range []int{math.MinInt, -1 << 40, -2, -1, 0} {
		p := newPair(t, limit)
		for _, n := range edges {
			p.look(n, n, dedupe.Full, api.Pos{})
			p.note(n, 5, 1, 1, false)
			p.note(5, n, 1, 1, false)
			p.load(false, seen(n, 5, 1, 1))
		}
		p.load(true)
		p.load(false, seen(1, 1, 1, 1), seen(2, 1, 1, 2))
		p.load(false, seen(2, 1, 1, 1), seen(1, 1, 1, 2))
		p.is()
		p.look(1, 1, dedupe.Full, api.Pos{})
	}
}

// P14.1: New of a limit of 1, of 2 and more, up to which sessions come.
func TestLimits(t *testing.T) {
	for _, limit := range []int{1, 2, 3, 8, api.MaxSessions, 100} {
		p := newPair(t, limit)
		for s := range limit {
			p.look(s, 1, dedupe.Fresh, api.Pos{})
			p.note(s, 1, 1, s+1, true)
			p.look(s, 1, dedupe.Again, pos(1, s+1))
		}
		p.look(limit, 1, dedupe.Full, api.Pos{})
		p.note(limit, 1, 1, limit+1, false)
		p.note(-1, 1, 1, limit+1, false)
		if n := p.table.Len(); n != limit {
			t.Errorf("%d sessions of %d", n, limit)
		}
	}
}

// P14.1: New of a great limit takes whatever comes.
func TestGreatLimit(t *testing.T) {
	for _, limit := range []int{1 << 31, 1 << 40, math.MaxInt - 1, math.MaxInt} {
		p := newPair(t, limit)
		for s := range 50 {
			p.note(s*s*s-500, s, 1, s, true)
			p.look(9, 1, dedupe.Fresh, api.Pos{})
		}
	}
}

// P14.1: Look of a session that isn't there is Fresh while there is room, and Full where there is none, whatever request
// it is.
func TestLookOfNoSession(t *testing.T) {
	p := newPair(t, 2)
	for _, want := range []int{dedupe.Fresh, dedupe.Fresh, dedupe.Full} {
		for _, request := range edges {
			for _, s := range []int{0, 1, 6, 8, -7, 7 + 1<<32} {
				p.look(s, request, want, api.Pos{})
			}
		}
		p.note(7+p.table.Len()*10, 3, 1, 1, want == dedupe.Fresh)
	}
}

// P14.1: Look of a session that is there, with the last request, and with those about it; the position is told beside
// Again alone.
func TestLook(t *testing.T) {
	for _, others := range []int{0, 1} {
		p := newPair(t, 2).noteAll(seen(7, 3, 5, 9))
		for range others {
			p.note(8, 100, 6, 1, true)
		}
		p.look(7, 3, dedupe.Again, pos(5, 9))
		for _, late := range []int{2, 1, 0, -1, -3, 3 - 1<<32, math.MinInt + 3, math.MinInt} {
			p.look(7, late, dedupe.Late, api.Pos{})
		}
		for _, fresh := range []int{4, 5, 6, 100, 3 + 1<<32, math.MaxInt} {
			p.look(7, fresh, dedupe.Fresh, api.Pos{})
		}
		p.look(7, 3, dedupe.Again, pos(5, 9))
	}
}

// P14.1: the position that was noted is told whatever it is, the zero one too.
func TestPositions(t *testing.T) {
	p := newPair(t, 3)
	for i, at := range []api.Pos{{}, {Epoch: 1}, {Index: 1}, {Epoch: -1, Index: -2}, {Epoch: 3, Index: 2}, {Epoch: 2, Index: 1},
		{Epoch: math.MaxInt, Index: math.MinInt}, {}} {
		p.note(4, i, at.Epoch, at.Index, true)
		p.look(4, i, dedupe.Again, at)
		p.look(4, i-1, dedupe.Late, api.Pos{})
		p.look(4, i+1, dedupe.Fresh, api.Pos{})
		p.is(api.Seen{Session: 4, Request: i, At: at})
	}
}

// P14.1, P14.2: Note of a session's last request, and of one below it, is false, and changes neither the last request nor
// its position; one above it is the last one then, however far it is.
func TestNote(t *testing.T) {
	p := newPair(t, 2)
	p.note(7, 3, 1, 4, true)
	for _, request := range []int{3, 2, 1, 0, -5, math.MinInt} {
		p.note(7, request, 2, 9, false)
		p.is(seen(7, 3, 1, 4))
		p.look(7, 3, dedupe.Again, pos(1, 4))
	}
	p.note(7, 4, 1, 3, true)
	p.is(seen(7, 4, 1, 3))
	p.note(7, 3, 1, 4, false)
	p.note(7, 4, 1, 3, false)
	p.note(7, 900, 2, 1, true)
	p.is(seen(7, 900, 2, 1))
	for _, request := range []int{5, 4, 3, 899, 900} {
		p.note(7, request, 3, 3, false)
	}
	p.look(7, 4, dedupe.Late, api.Pos{})
	p.is(seen(7, 900, 2, 1))
}

// P14.1: Note of a session that isn't there takes it while there is room; where there is none it is false, and there are
// as many as there were.
func TestNoteOfNoSession(t *testing.T) {
	p := newPair(t, 2)
	p.note(7, 3, 1, 1, true)
	p.note(5, -3, 1, 2, true)
	for _, request := range edges {
		p.note(6, request, 1, 3, false)
	}
	p.is(seen(5, -3, 1, 2), seen(7, 3, 1, 1))
	p.look(6, 1, dedupe.Full, api.Pos{})
}

// P14.1, P14.2: sessions that are there go on in a full table.
func TestFullTableGoesOn(t *testing.T) {
	for limit := 1; limit <= 5; limit++ {
		p := newPair(t, limit)
		for request := range 6 {
			for s := range limit {
				p.note(s, request, 1, request*limit+s, true)
				p.note(s, request, 2, 2, false)
				p.note(s, request-1, 2, 2, false)
			}
			p.note(limit, request, 3, 3, false)
			p.note(-1, request+100, 3, 3, false)
		}
	}
}

// P14.1, P14.2: requests that are 0, below 0, the smallest and the greatest that an int holds, one behind the other.
func TestRequestsAtTheEdges(t *testing.T) {
	p := newPair(t, 1)
	for i, request := range edges {
		for j := range i {
			p.note(-3, edges[j], 8, 8, false)
		}
		p.note(-3, request, 1, i, true)
		p.note(-3, request, 1, i+1, false)
		p.look(-3, request, dedupe.Again, pos(1, i))
		for j, other := range edges {
			want := []int{dedupe.Late, dedupe.Again, dedupe.Fresh}[1+min(max(j-i, -1), 1)]
			if kind, _ := p.table.Look(-3, other); kind != want {
				t.Errorf("Look(-3, %d) behind %d is %d, not %d", other, request, kind, want)
			}
		}
	}
	p.is(seen(-3, math.MaxInt, 1, len(edges)-1))
	down := newPair(t, 1)
	down.note(0, math.MaxInt, 1, 1, true)
	for _, request := range edges {
		down.note(0, request, 1, 2, false)
	}
}

// P14.1: sessions that are 0, below 0, the smallest and the greatest that an int holds, are each of its own, and rise.
func TestSessionsAtTheEdges(t *testing.T) {
	r := rand.New(rand.NewSource(14))
	for range 20 {
		p := newPair(t, len(edges))
		for _, i := range r.Perm(len(edges)) {
			p.note(edges[i], 10+i, 1, i, true)
		}
		p.note(3, 1, 1, 1, false)
		all := p.table.All()
		for i, s := range edges {
			if all[i] != seen(s, 10+i, 1, i) {
				t.Fatalf("All is %v", all)
			}
		}
		p.load(true, all...)
		p.load(false, append(slices.Clone(all), seen(math.MaxInt, 1, 1, 1))...)
		p.load(true, all[0], all[len(all)-1])
		p.load(false, all[len(all)-1], all[0])
	}
}

// P14.1: All of no session, of one, and of many that were noted in another order: rising, each once, with the last request
// and its position, and Len beside it.
func TestAll(t *testing.T) {
	p := newPair(t, 6)
	p.is()
	p.note(4, 1, 1, 1, true)
	p.is(seen(4, 1, 1, 1))
	p.noteAll(seen(2, 9, 1, 2), seen(9, 5, 1, 3), seen(-6, 7, 1, 4), seen(4, 2, 1, 5), seen(3, 1, 1, 6), seen(2, 10, 1, 7))
	p.is(seen(-6, 7, 1, 4), seen(2, 10, 1, 7), seen(3, 1, 1, 6), seen(4, 2, 1, 5), seen(9, 5, 1, 3))
	p.note(2, 10, 9, 9, false)
	p.note(10, -1, 2, 1, true)
	p.note(11, 1, 2, 2, false)
	p.is(seen(-6, 7, 1, 4), seen(2, 10, 1, 7), seen(3, 1, 1, 6), seen(4, 2, 1, 5), seen(9, 5, 1, 3), seen(10, -1, 2, 1))
}

// P14.1: All tells the same in whatever order its sessions came, each time that it is asked.
func TestAllInAnyOrder(t *testing.T) {
	r := rand.New(rand.NewSource(140))
	var want []api.Seen
	for i := range 40 {
		want = append(want, seen(3*i-50, i*i, 1, i))
	}
	for range 50 {
		d := dedupe.New(40)
		for _, i := range r.Perm(40) {
			d.Note(want[i].Session, want[i].Request, want[i].At)
		}
		for range 3 {
			if all := d.All(); !slices.Equal(all, want) {
				t.Fatalf("All is %v", all)
			}
		}
	}
}

// P14.1: a nil table is Full, and has no sessions.
func TestNil(t *testing.T) {
	var d *dedupe.Table
	for range 2 {
		for _, session := range edges {
			for _, request := range edges {
				if kind, at := d.Look(session, request); kind != dedupe.Full || at != (api.Pos{}) {
					t.Errorf("Look is %d, %v", kind, at)
				}
				if d.Note(session, request, pos(1, 1)) {
					t.Error("Note is true")
				}
			}
		}
		if d.Len() != 0 || len(d.All()) != 0 {
			t.Errorf("%d sessions, %v", d.Len(), d.All())
		}
		if d.Load(nil) || d.Load([]api.Seen{}) || d.Load([]api.Seen{seen(1, 1, 1, 1)}) || d.Load([]api.Seen{seen(2, 1, 1, 1), seen(1, 1, 1, 1)}) {
			t.Error("Load is true")
		}
	}
}

// P14.1: two tables have nothing of each other.
func TestTwoTables(t *testing.T) {
	if dedupe.New(1) == dedupe.New(1) {
		t.Error("the same table is answered twice")
	}
	p, q := newPair(t, 1), newPair(t, 2)
	p.note(1, 5, 1, 1, true)
	q.note(1, 4, 1, 2, true)
	q.note(2, 1, 1, 3, true)
	p.note(2, 1, 1, 4, false)
	p.load(true)
	q.is(seen(1, 4, 1, 2), seen(2, 1, 1, 3))
	q.load(true, seen(3, 3, 3, 3))
	p.is()
}

// everyCall is each call with a few sessions and requests.
func everyCall() []call {
	var calls []call
	for session := range 3 {
		for request := range 3 {
			calls = append(calls, call{Seen: seen(session, request, 1, 10*session+request+1)})
		}
	}
	calls = append(calls, call{Seen: seen(1, 1, 2, 99)})
	a, b, c := seen(0, 1, 3, 1), seen(1, 1, 3, 2), seen(2, 0, 3, 3)
	for _, l := range [][]api.Seen{nil, {a}, {b}, {a, b}, {b, a}, {b, b}, {a, c}, {a, b, c}, {a, c, b}} {
		calls = append(calls, call{load: true, list: l})
	}
	return calls
}

// P14.1, P14.2: each run of three calls in small tables.
func TestEachRunOfFewCalls(t *testing.T) {
	calls := everyCall()
	for limit := -1; limit <= 3; limit++ {
		for n := range len(calls) * len(calls) * len(calls) {
			p := newPair(t, limit)
			for rest := n; len(p.calls) < 3; rest /= len(calls) {
				p.do(calls[rest%len(calls)])
			}
		}
	}
}

// byChance is a call, mostly a Note, of some sessions and requests; lists that are loaded mostly rise.
func byChance(r *rand.Rand, sessions, requests int) call {
	one := func() api.Seen { return seen(r.Intn(sessions), r.Intn(requests), r.Intn(3), r.Intn(500)) }
	if r.Intn(40) > 0 {
		return call{Seen: one()}
	}
	var list []api.Seen
	for range r.Intn(5) {
		list = append(list, one())
	}
	if r.Intn(4) > 0 {
		slices.SortFunc(list, func(a, b api.Seen) int { return a.Session - b.Session })
	}
	return call{load: true, list: list}
}

// P14.1, P14.2: calls by chance, in tables of several limits.
func TestCallsByChance(t *testing.T) {
	r := rand.New(rand.NewSource(144))
	for _, limit := range []int{1, 2, 5, api.MaxSessions, math.MaxInt} {
		for _, sessions := range []int{1, 3, 20} {
			for _, requests := range []int{2, 10, 40} {
				p := newPair(t, limit)
				for range 250 {
					p.do(byChance(r, sessions, requests))
				}
			}
		}
	}
}

// P14.2, without the model: of the requests that were noted of a session each is above all ahead of it; the last is Again
// with its position, all below are Late, all above are Fresh, whatever other sessions do.
func TestNoRequestTwice(t *testing.T) {
	r := rand.New(rand.NewSource(142))
	for _, limit := range []int{1, 3, 8} {
		d := dedupe.New(limit)
		last, taken, refused := map[int]api.Seen{}, 0, 0
		for i := range 3000 {
			x := seen(r.Intn(10), r.Intn(20+i/20), 1, i)
			was, here := last[x.Session]
			if d.Note(x.Session, x.Request, x.At) {
				taken++
				if here && x.Request <= was.Request || !here && len(last) >= limit {
					t.Fatalf("limit %d: %v is noted behind %v", limit, x, was)
				}
				last[x.Session] = x
			} else if refused++; here && x.Request > was.Request || !here && len(last) < limit {
				t.Fatalf("limit %d: %v is refused behind %v", limit, x, was)
			}
			for session, l := range last {
				above, at := d.Look(session, l.Request+1)
				again, where := d.Look(session, l.Request)
				below, nowhere := d.Look(session, l.Request-1)
				if above != dedupe.Fresh || again != dedupe.Again || below != dedupe.Late || where != l.At || at != nowhere || at != (api.Pos{}) {
					t.Fatalf("about %v: %d %v, %d %v, %d %v", l, above, at, again, where, below, nowhere)
				}
			}
			if d.Len() != len(last) || d.Len() > limit {
				t.Fatalf("%d sessions, not %d, of %d", d.Len(), len(last), limit)
			}
		}
		if taken < 20 || refused < 20 {
			t.Errorf("%d were noted, %d refused", taken, refused)
		}
	}
}
