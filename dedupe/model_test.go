package dedupe_test

import (
	"fmt"
	"math"
	"slices"
	"testing"

	"meridian/api"
	"meridian/dedupe"
)

// pos is a position, told in short.
func pos(epoch, index int) api.Pos { return api.Pos{Epoch: epoch, Index: index} }

// seen is a session with its last request and that one's position, told in short.
func seen(session, request, epoch, index int) api.Seen {
	return api.Seen{Session: session, Request: request, At: pos(epoch, index)}
}

// model is all that was ever noted, one behind the other, with what was loaded ahead of it: what is the last one of a
// session is worked out when it is asked.
type model struct {
	limit int
	noted []api.Seen
}

// sessions is each session once, in the order in which they came.
func (m *model) sessions() []int {
	var out []int
	for _, x := range m.noted {
		if !slices.Contains(out, x.Session) {
			out = append(out, x.Session)
		}
	}
	return out
}

// full is told without a room that is less than none.
func (m *model) full() bool { return m.limit < 1 || len(m.sessions()) == m.limit }

func (m *model) look(session, request int) (int, api.Pos) {
	here, last := false, api.Seen{}
	for _, x := range m.noted {
		if x.Session == session {
			here, last = true, x
		}
	}
	if !here && m.full() {
		return 4, api.Pos{}
	}
	if !here || request > last.Request {
		return 1, api.Pos{}
	}
	if request < last.Request {
		return 3, api.Pos{}
	}
	return 2, last.At
}

func (m *model) note(x api.Seen) bool {
	if kind, _ := m.look(x.Session, x.Request); kind != 1 {
		return false
	}
	m.noted = append(m.noted, x)
	return true
}

// load holds each session against each one behind it.
func (m *model) load(l []api.Seen) bool {
	if len(l) > 0 && (m.limit < 1 || len(l) > m.limit) {
		return false
	}
	for i := range l {
		for _, later := range l[i+1:] {
			if !(later.Session > l[i].Session) {
				return false
			}
		}
	}
	m.noted = slices.Clone(l)
	return true
}

// all puts each session at the place that is the number of those less than it.
func (m *model) all() []api.Seen {
	sessions := m.sessions()
	out := make([]api.Seen, len(sessions))
	for _, x := range m.noted {
		place := 0
		for _, s := range sessions {
			if s < x.Session {
				place++
			}
		}
		out[place] = x
	}
	return out
}

// call is one call that may change a table: a Note of what is told, or, where load is set, a Load of the list.
type call struct {
	api.Seen
	load bool
	list []api.Seen
}

func (c call) String() string {
	if c.load {
		return fmt.Sprintf("Load(%v)", c.list)
	}
	return fmt.Sprintf("Note(%d, %d, %v)", c.Session, c.Request, c.At)
}

// of makes the call to a table.
func (c call) of(t *dedupe.Table) bool {
	if c.load {
		return t.Load(c.list)
	}
	return t.Note(c.Session, c.Request, c.At)
}

// ofModel makes the call to a model.
func (c call) ofModel(m *model) bool {
	if c.load {
		return m.load(c.list)
	}
	return m.note(c.Seen)
}

// pair is a table and the model of it, to which each call is made at once.
type pair struct {
	t     *testing.T
	table *dedupe.Table
	model *model
	calls []call
	// asked is the sessions and requests that were ever spoken of, whose Look is held to the model behind each call.
	asked [][2]int
}

func newPair(t *testing.T, limit int) *pair {
	t.Helper()
	p := &pair{t: t, table: dedupe.New(limit), model: &model{limit: limit}, asked: [][2]int{{0, 0}, {77, 1}}}
	if p.table == nil {
		p.fail("is nil")
	}
	p.same()
	return p
}

// fail tells the last calls with what was wrong behind them.
func (p *pair) fail(form string, args ...any) {
	p.t.Helper()
	late := p.calls[max(len(p.calls)-12, 0):]
	p.t.Fatalf("limit %d, %d calls, of which the last %v: %s", p.model.limit, len(p.calls), late, fmt.Sprintf(form, args...))
}

// ask keeps a session's request, and those next to it, among those that are asked for behind each call.
func (p *pair) ask(session, request int) {
	asked := [][2]int{{session, request}}
	if request > math.MinInt {
		asked = append(asked, [2]int{session, request - 1})
	}
	if request < math.MaxInt {
		asked = append(asked, [2]int{session, request + 1})
	}
	for _, a := range asked {
		if !slices.Contains(p.asked, a) {
			p.asked = append(p.asked, a)
		}
	}
}

// same holds all that can be asked without a change to the model: Len, All, and Look of all that was spoken of.
func (p *pair) same() {
	p.t.Helper()
	want := p.model.all()
	if n := p.table.Len(); n != len(want) {
		p.fail("%d sessions, not %d", n, len(want))
	}
	if all := p.table.All(); !slices.Equal(all, want) {
		p.fail("All is %v, not %v", all, want)
	}
	for _, a := range p.asked {
		kind, at := p.table.Look(a[0], a[1])
		if wantKind, wantAt := p.model.look(a[0], a[1]); kind != wantKind || at != wantAt {
			p.fail("Look(%d, %d) is %d, %v, not %d, %v", a[0], a[1], kind, at, wantKind, wantAt)
		}
	}
}

// do makes a call, and holds its answer, and what is there behind it, to the model.
func (p *pair) do(c call) bool {
	p.t.Helper()
	p.calls = append(p.calls, c)
	for _, x := range append([]api.Seen{c.Seen}, c.list...) {
		p.ask(x.Session, x.Request)
	}
	got, want := c.of(p.table), c.ofModel(p.model)
	if got != want {
		p.fail("is %v", got)
	}
	p.same()
	return got
}

// The calls whose answers a test tells in plain words.

func (p *pair) note(session, request, epoch, index int, want bool) {
	p.t.Helper()
	if p.do(call{Seen: seen(session, request, epoch, index)}) != want {
		p.fail("is %v", !want)
	}
}

func (p *pair) load(want bool, l ...api.Seen) {
	p.t.Helper()
	if p.do(call{load: true, list: l}) != want {
		p.fail("is %v", !want)
	}
}

func (p *pair) look(session, request, want int, at api.Pos) {
	p.t.Helper()
	p.ask(session, request)
	p.same()
	if kind, here := p.table.Look(session, request); kind != want || here != at {
		p.fail("Look(%d, %d) is %d, %v, not %d, %v", session, request, kind, here, want, at)
	}
}

// is holds a table to just these sessions, told in their order.
func (p *pair) is(want ...api.Seen) {
	p.t.Helper()
	if n := p.table.Len(); n != len(want) {
		p.fail("%d sessions, not %d", n, len(want))
	}
	if all := p.table.All(); !slices.Equal(all, want) {
		p.fail("All is %v, not %v", all, want)
	}
}

// noteAll notes what is all to be taken.
func (p *pair) noteAll(l ...api.Seen) *pair {
	p.t.Helper()
	for _, x := range l {
		p.note(x.Session, x.Request, x.At.Epoch, x.At.Index, true)
	}
	return p
}
