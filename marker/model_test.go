package marker_test

import (
	"fmt"
	"slices"
	"testing"

	"meridian/api"
	"meridian/marker"
)

// mk is a marker, told in short.
func mk(key string, session, request int) marker.Marker {
	return marker.Marker{Key: key, Session: session, Request: request}
}

// less is the chapter's order, written out.
func less(a, b marker.Marker) bool {
	if a.Key != b.Key {
		return a.Key < b.Key
	}
	if a.Session != b.Session {
		return a.Session < b.Session
	}
	return a.Request < b.Request
}

// model is the markers that are there, in the order in which they were set.
type model struct {
	limit int
	there []marker.Marker
}

func (m *model) set(x marker.Marker) api.Errno {
	if slices.Contains(m.there, x) {
		return api.OK
	}
	if m.limit < 1 || len(m.there) == m.limit {
		return api.ErrBusy
	}
	m.there = append(m.there, x)
	return api.OK
}

// take keeps those that aren't to go, in new memory, and counts the others.
func (m *model) take(goes func(marker.Marker) bool) int {
	var stay []marker.Marker
	n := 0
	for _, x := range m.there {
		if goes(x) {
			n++
		} else {
			stay = append(stay, x)
		}
	}
	m.there = stay
	return n
}

// all puts each marker at the place that is the number of those less than it.
func (m *model) all() []marker.Marker {
	out := make([]marker.Marker, len(m.there))
	for _, x := range m.there {
		place := 0
		for _, y := range m.there {
			if less(y, x) {
				place++
			}
		}
		out[place] = x
	}
	return out
}

func (m *model) has(key string) bool {
	for _, x := range m.there {
		if x.Key == key {
			return true
		}
	}
	return false
}

// call is one call that may change a table.
type call struct {
	kind string
	marker.Marker
}

func (c call) String() string {
	switch c.kind {
	case "Past":
		return fmt.Sprintf("Past(%d, %d)", c.Session, c.Request)
	case "Drop":
		return "Drop()"
	}
	return fmt.Sprintf("%s(%.40q, %d, %d)", c.kind, c.Key, c.Session, c.Request)
}

// answer is what a call answers, whatever its kind: an error, a number, or whether.
type answer struct {
	err api.Errno
	n   int
	ok  bool
}

// of makes the call to a table.
func (c call) of(t *marker.Table) (a answer) {
	switch c.kind {
	case "Set":
		a.err = t.Set(c.Key, c.Session, c.Request)
	case "Clear":
		a.ok = t.Clear(c.Key, c.Session, c.Request)
	case "Upto":
		a.n = t.Upto(c.Key, c.Session, c.Request)
	case "Past":
		a.n = t.Past(c.Session, c.Request)
	default:
		t.Drop()
	}
	return a
}

// ofModel makes the call to a model.
func (c call) ofModel(m *model) (a answer) {
	switch c.kind {
	case "Set":
		a.err = m.set(c.Marker)
	case "Clear":
		a.ok = m.take(func(x marker.Marker) bool { return x == c.Marker }) == 1
	case "Upto":
		a.n = m.take(func(x marker.Marker) bool {
			return x.Key == c.Key && x.Session == c.Session && !(x.Request > c.Request)
		})
	case "Past":
		a.n = m.take(func(x marker.Marker) bool { return x.Session == c.Session && !(x.Request > c.Request) })
	default:
		m.there = nil
	}
	return a
}

// pair is a table and the model of it, to which each call is made at once.
type pair struct {
	t     *testing.T
	table *marker.Table
	model *model
	calls []call
	keys  []string
}

func newPair(t *testing.T, limit int) *pair {
	t.Helper()
	p := &pair{t: t, table: marker.New(limit), model: &model{limit: limit}, keys: []string{"", "none"}}
	if p.table == nil {
		p.fail("is nil")
	}
	p.same()
	return p
}

// fail tells the last calls with what was wrong behind them.
func (p *pair) fail(form string, args ...any) {
	p.t.Helper()
	late := p.calls[max(len(p.calls)-12, 0):]
	p.t.Fatalf("limit %d, %d calls, of which the last %v: %s", p.model.limit, len(p.calls), late, fmt.Sprintf(form, args...))
}

// same holds all that can be asked without a change to the model: Len, All, and Has of each key that was ever spoken of.
func (p *pair) same() {
	p.t.Helper()
	if n := p.table.Len(); n != len(p.model.there) {
		p.fail("%d markers, not %d", n, len(p.model.there))
	}
	if all := p.table.All(); !slices.Equal(all, p.model.all()) {
		p.fail("All is %v, not %v", all, p.model.all())
	}
	for _, k := range p.keys {
		if has := p.table.Has(k); has != p.model.has(k) {
			p.fail("Has(%.40q) is %v", k, has)
		}
	}
}

// do makes a call, and holds its answer, and what is there behind it, to the model.
func (p *pair) do(c call) answer {
	p.t.Helper()
	p.calls = append(p.calls, c)
	if !slices.Contains(p.keys, c.Key) {
		p.keys = append(p.keys, c.Key)
	}
	got, want := c.of(p.table), c.ofModel(p.model)
	if got != want {
		p.fail("is %v, not %v", got, want)
	}
	p.same()
	return got
}

// The calls whose answers a test tells in plain words.

func (p *pair) set(key string, session, request int, want api.Errno) {
	p.t.Helper()
	if a := p.do(call{"Set", mk(key, session, request)}); a.err != want {
		p.fail("is %d, not %d", a.err, want)
	}
}

func (p *pair) clear(key string, session, request int, want bool) {
	p.t.Helper()
	if a := p.do(call{"Clear", mk(key, session, request)}); a.ok != want {
		p.fail("is %v", a.ok)
	}
}

func (p *pair) upto(key string, session, request int, want int) {
	p.t.Helper()
	if a := p.do(call{"Upto", mk(key, session, request)}); a.n != want {
		p.fail("is %d, not %d", a.n, want)
	}
}

func (p *pair) past(session, request int, want int) {
	p.t.Helper()
	if a := p.do(call{"Past", mk("", session, request)}); a.n != want {
		p.fail("is %d, not %d", a.n, want)
	}
}

func (p *pair) drop() {
	p.t.Helper()
	p.do(call{kind: "Drop"})
}

// setAll sets markers that are all to be taken.
func (p *pair) setAll(markers ...marker.Marker) *pair {
	p.t.Helper()
	for _, m := range markers {
		p.set(m.Key, m.Session, m.Request, api.OK)
	}
	return p
}

// is holds a table to just these markers, told in their order.
func (p *pair) is(want ...marker.Marker) {
	p.t.Helper()
	if n := p.table.Len(); n != len(want) {
		p.fail("%d markers, not %d", n, len(want))
	}
	if all := p.table.All(); !slices.Equal(all, want) {
		p.fail("All is %v, not %v", all, want)
	}
}

// has holds Has of a key to what is told.
func (p *pair) has(key string, want bool) {
	p.t.Helper()
	if p.table.Has(key) != want {
		p.fail("Has(%.40q) is %v", key, !want)
	}
}
