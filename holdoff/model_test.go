package holdoff_test

import (
	"fmt"
	"math"
	"slices"
	"testing"

	"meridian/holdoff"
)

// tomb is a key with an index.
type tomb struct {
	key   string
	index int
}

// model is the tombstones that are there, in the order in which they came, and the floor.
type model struct {
	limit, floor int
	there        []tomb
}

func (m *model) note(x tomb) {
	if x.index < 1 {
		return
	}
	for i, y := range m.there {
		if y.key == x.key {
			if x.index > y.index {
				m.there[i].index = x.index
			}
			return
		}
	}
	if m.limit >= 1 && len(m.there) != m.limit {
		m.there = append(m.there, x)
	} else if x.index > m.floor {
		m.floor = x.index
	}
}

func (m *model) allows(key string, asOf int) bool {
	if asOf < m.floor {
		return false
	}
	for _, x := range m.there {
		if x.key == key && asOf < x.index {
			return false
		}
	}
	return true
}

// pass keeps those that are above, in new memory, and counts the others.
func (m *model) pass(index int) int {
	var stay []tomb
	for _, x := range m.there {
		if x.index > index {
			stay = append(stay, x)
		}
	}
	went := len(m.there) - len(stay)
	m.there = stay
	if !(m.floor > index) {
		m.floor = 0
	}
	return went
}

// keys puts each key at the place that is the number of those less than it.
func (m *model) keys() []string {
	out := make([]string, len(m.there))
	for _, x := range m.there {
		place := 0
		for _, y := range m.there {
			if y.key < x.key {
				place++
			}
		}
		out[place] = x.key
	}
	return out
}

// call is one call that may change a table.
type call struct {
	kind string
	tomb
}

func (c call) String() string {
	switch c.kind {
	case "Note":
		return fmt.Sprintf("Note(%.40q, %d)", c.key, c.index)
	case "Pass":
		return fmt.Sprintf("Pass(%d)", c.index)
	}
	return "Clear()"
}

// of makes the call to a table: how many tombstones it tells that went.
func (c call) of(t *holdoff.Table) int {
	switch c.kind {
	case "Note":
		t.Note(c.key, c.index)
	case "Pass":
		return t.Pass(c.index)
	default:
		t.Clear()
	}
	return 0
}

// ofModel makes the call to a model.
func (c call) ofModel(m *model) int {
	switch c.kind {
	case "Note":
		m.note(c.tomb)
	case "Pass":
		return m.pass(c.index)
	default:
		m.there, m.floor = nil, 0
	}
	return 0
}

// pair is a table and the model of it, to which each call is made at once.
type pair struct {
	t     *testing.T
	table *holdoff.Table
	model *model
	calls []call
	keys  []string
}

func newPair(t *testing.T, limit int) *pair {
	t.Helper()
	p := &pair{t: t, table: holdoff.New(limit), model: &model{limit: limit}, keys: []string{"", "none"}}
	if p.table == nil {
		p.fail("is nil")
	}
	p.same()
	return p
}

// fail tells the last calls with what was wrong behind them.
func (p *pair) fail(form string, args ...any) {
	p.t.Helper()
	late := p.calls[max(len(p.calls)-12, 0):]
	p.t.Fatalf("limit %d, %d calls, of which the last %v: %s", p.model.limit, len(p.calls), late, fmt.Sprintf(form, args...))
}

// edges are the numbers next to the floor and to each tombstone, and those at the ends.
func (p *pair) edges() []int {
	out := []int{math.MinInt, -1, 0, 1, math.MaxInt}
	for _, x := range append([]tomb{{index: p.model.floor}}, p.model.there...) {
		if x.index > 0 { // 1 less and 1 more than the others stand there already
			out = append(out, x.index-1, x.index)
		}
		if x.index > 0 && x.index < math.MaxInt {
			out = append(out, x.index+1)
		}
	}
	return out
}

// same holds all that can be asked without a change to the model: Len, Floor, Keys, and Allows of each key that was ever spoken of.
func (p *pair) same() {
	p.t.Helper()
	if n := p.table.Len(); n != len(p.model.there) {
		p.fail("%d tombstones, not %d", n, len(p.model.there))
	}
	if n := p.table.Floor(); n != p.model.floor {
		p.fail("the floor is %d, not %d", n, p.model.floor)
	}
	if keys := p.table.Keys(); !slices.Equal(keys, p.model.keys()) {
		p.fail("Keys is %.40q, not %.40q", keys, p.model.keys())
	}
	edges := p.edges()
	for _, k := range p.keys {
		for _, n := range edges {
			if ok := p.table.Allows(k, n); ok != p.model.allows(k, n) {
				p.fail("Allows(%.40q, %d) is %v", k, n, ok)
			}
		}
	}
}

// do makes a call, and holds its answer, and what is there behind it, to the model.
func (p *pair) do(c call) int {
	p.t.Helper()
	p.calls = append(p.calls, c)
	if !slices.Contains(p.keys, c.key) {
		p.keys = append(p.keys, c.key)
	}
	got, want := c.of(p.table), c.ofModel(p.model)
	if got != want {
		p.fail("is %d, not %d", got, want)
	}
	p.same()
	return got
}

// The calls whose answers a test tells in plain words.

func (p *pair) note(key string, index int) *pair {
	p.t.Helper()
	p.do(call{"Note", tomb{key, index}})
	return p
}

func (p *pair) pass(index, want int) {
	p.t.Helper()
	if n := p.do(call{"Pass", tomb{index: index}}); n != want {
		p.fail("%d went, not %d", n, want)
	}
}

func (p *pair) clear() {
	p.t.Helper()
	p.do(call{kind: "Clear"})
}

// is holds a table to its floor and to the keys that have tombstones, told in their order.
func (p *pair) is(floor int, keys ...string) {
	p.t.Helper()
	if n := p.table.Len(); n != len(keys) {
		p.fail("%d tombstones, not %d", n, len(keys))
	}
	if n := p.table.Floor(); n != floor {
		p.fail("the floor is %d, not %d", n, floor)
	}
	if got := p.table.Keys(); !slices.Equal(got, keys) {
		p.fail("Keys is %.40q, not %.40q", got, keys)
	}
}

// from holds Allows of a key to a number from which on it is true.
func (p *pair) from(key string, least int) {
	p.t.Helper()
	if !p.table.Allows(key, least) || !p.table.Allows(key, math.MaxInt) {
		p.fail("Allows(%.40q, %d or above) is false", key, least)
	}
	if p.table.Allows(key, least-1) || p.table.Allows(key, math.MinInt) {
		p.fail("Allows(%.40q, below %d) is true", key, least)
	}
}
