package lease_test

import (
	"fmt"
	"testing"

	"meridian/lease"
)

// grant is one lease that the model ever granted: behind how many ticks of the table, and whether a call has ended it.
type grant struct {
	key   string
	token int64
	when  int
	over  bool
}

// model is all leases that ever were granted, one behind the other: which of them still are there is worked out when
// it is asked.
type model struct {
	limit, ticks, now int
	last              int64
	grants            []grant
}

func newModel(limit, ticks int, last int64) *model {
	m := &model{limit: limit, ticks: ticks}
	if ticks < 1 {
		m.ticks = 1
	}
	if 0 <= last && last <= 9007199254740992 {
		m.last = last
	}
	return m
}

// there tells whether a lease hasn't gone, by a call or by the ticks.
func (m *model) there(g grant) bool { return !g.over && m.now-g.when < m.ticks }

func (m *model) len() int {
	n := 0
	for _, g := range m.grants {
		if m.there(g) {
			n++
		}
	}
	return n
}

// find is the place of a key's lease, or -1.
func (m *model) find(key string) int {
	for i, g := range m.grants {
		if m.there(g) && g.key == key {
			return i
		}
	}
	return -1
}

func (m *model) grant(key string) (int64, bool) {
	if m.find(key) >= 0 || m.limit < 1 || m.len() == m.limit {
		return 0, false
	}
	m.last++
	m.grants = append(m.grants, grant{key: key, token: m.last, when: m.now})
	return m.last, true
}

func (m *model) use(key string, token int64) bool {
	i := m.find(key)
	if i < 0 || m.grants[i].token != token {
		return false
	}
	m.grants[i].over = true
	return true
}

func (m *model) kill(key string) bool {
	i := m.find(key)
	if i < 0 {
		return false
	}
	m.grants[i].over = true
	return true
}

func (m *model) clear() {
	for i := range m.grants {
		m.grants[i].over = true
	}
}

// call is one call of a table.
type call struct {
	kind, key string
	token     int64
}

func (c call) String() string {
	switch c.kind {
	case "use":
		return fmt.Sprintf("Use(%.40q, %d)", c.key, c.token)
	case "grant":
		return fmt.Sprintf("Grant(%.40q)", c.key)
	case "kill":
		return fmt.Sprintf("Kill(%.40q)", c.key)
	case "tick":
		return "Tick()"
	}
	return "Clear()"
}

// pair is a table and the model of it, to which each call is made at once.
type pair struct {
	t     *testing.T
	table *lease.Table
	model *model
	from  int64
	calls []call
}

func newPair(t *testing.T, limit, ticks int) *pair {
	t.Helper()
	p := &pair{t: t, table: lease.New(limit, ticks), model: newModel(limit, ticks, 0)}
	p.begin()
	return p
}

func newPairAgain(t *testing.T, limit, ticks int, last int64) *pair {
	t.Helper()
	p := &pair{t: t, table: lease.Again(limit, ticks, last), model: newModel(limit, ticks, last), from: last}
	p.begin()
	return p
}

func (p *pair) begin() {
	p.t.Helper()
	if p.table == nil {
		p.fail("is nil")
	}
	p.has(0, p.model.last)
}

// fail tells the last calls with what was wrong behind them.
func (p *pair) fail(form string, args ...any) {
	p.t.Helper()
	calls, gap := p.calls, ""
	if len(calls) > 12 {
		calls, gap = calls[len(calls)-12:], ".. "
	}
	p.t.Fatalf("limit %d, ticks %d, last %d: %s%v: %s", p.model.limit, p.model.ticks, p.from, gap, calls, fmt.Sprintf(form, args...))
}

// has holds a table to what is told in plain numbers.
func (p *pair) has(leases int, granted int64) {
	p.t.Helper()
	if n, last := p.table.Len(), p.table.Granted(); n != leases || last != granted {
		p.fail("%d leases, the last token %d, not %d, %d", n, last, leases, granted)
	}
}

// do makes a call, and holds its answer, and what can be asked without a change behind it, to the model.
func (p *pair) do(c call) {
	p.t.Helper()
	p.calls = append(p.calls, c)
	var token, wantToken int64
	var ok, want bool
	switch c.kind {
	case "grant":
		token, ok = p.table.Grant(c.key)
		wantToken, want = p.model.grant(c.key)
	case "use":
		ok, want = p.table.Use(c.key, c.token), p.model.use(c.key, c.token)
	case "kill":
		ok, want = p.table.Kill(c.key), p.model.kill(c.key)
	case "tick":
		p.table.Tick()
		p.model.now++
	case "clear":
		p.table.Clear()
		p.model.clear()
	}
	if token != wantToken || ok != want {
		p.fail("is %d, %v, not %d, %v", token, ok, wantToken, want)
	}
	p.has(p.model.len(), p.model.last)
}

func (p *pair) grant(keys ...string) {
	p.t.Helper()
	for _, k := range keys {
		p.do(call{kind: "grant", key: k})
	}
}

func (p *pair) use(key string, token int64) { p.t.Helper(); p.do(call{"use", key, token}) }
func (p *pair) kill(key string)             { p.t.Helper(); p.do(call{kind: "kill", key: key}) }
func (p *pair) clear()                      { p.t.Helper(); p.do(call{kind: "clear"}) }

func (p *pair) tick(times int) {
	p.t.Helper()
	for range times {
		p.do(call{kind: "tick"})
	}
}

// useAll uses each lease that the model ever granted: those that are there once, those that went in vain. Each key is
// tried with wrong tokens first, none of which may take its lease.
func (p *pair) useAll() {
	p.t.Helper()
	grants := append([]grant{}, p.model.grants...)
	for _, g := range grants {
		for _, token := range []int64{0, g.token - 1, g.token + 1, -g.token, g.token + 1<<32} {
			if i := p.model.find(g.key); i < 0 || p.model.grants[i].token != token {
				p.use(g.key, token)
			}
		}
		p.use(g.key, g.token)
		p.use(g.key, g.token)
	}
	p.has(0, p.model.last)
}

// tickAll lets all leases go by ticks, and holds the table to the model at each of them.
func (p *pair) tickAll() {
	p.t.Helper()
	p.tick(p.model.ticks)
	p.has(0, p.model.last)
}
