package lru_test

import (
	"fmt"
	"slices"
	"testing"

	"meridian/lru"
)

// use is what the model knows of a thing: when it was used last, and no order.
type use struct {
	size, value, when int
}

// model is what a cache has, in no order at all: which thing is the last one is looked for when it is asked.
type model struct {
	room, reserved uint64
	things         map[string]use
	now            int
}

func newModel(room int) *model {
	m := &model{things: map[string]use{}}
	if room > 0 {
		m.room = uint64(room)
	}
	return m
}

func (m *model) used() uint64 {
	sum := m.reserved
	for _, u := range m.things {
		sum += uint64(u.size)
	}
	return sum
}

// fits tells whether n bytes could be had if all things went. All sums are below 2^64, since no int is 2^63.
func (m *model) fits(n int) bool { return n >= 0 && uint64(n)+m.reserved <= m.room }

func (m *model) makeWay(n int) []string {
	var gone []string
	for m.used()+uint64(n) > m.room {
		list := m.keys()
		last := list[len(list)-1]
		delete(m.things, last)
		gone = append(gone, last)
	}
	return gone
}

func (m *model) put(key string, size, v int) ([]string, bool) {
	delete(m.things, key)
	if !m.fits(size) {
		return nil, false
	}
	gone := m.makeWay(size)
	m.now++
	m.things[key] = use{size, v, m.now}
	return gone, true
}

func (m *model) get(key string) (int, bool) {
	u, ok := m.things[key]
	if ok {
		m.now++
		u.when = m.now
		m.things[key] = u
	}
	return u.value, ok
}

func (m *model) drop(key string) bool {
	_, ok := m.things[key]
	delete(m.things, key)
	return ok
}

func (m *model) reserve(n int) ([]string, bool) {
	if !m.fits(n) {
		return nil, false
	}
	gone := m.makeWay(n)
	m.reserved += uint64(n)
	return gone, true
}

func (m *model) release(n int) {
	switch {
	case n < 0:
	case uint64(n) > m.reserved:
		m.reserved = 0
	default:
		m.reserved -= uint64(n)
	}
}

func (m *model) keys() []string {
	var list []string
	for k := range m.things {
		list = append(list, k)
	}
	slices.SortFunc(list, func(a, b string) int { return m.things[b].when - m.things[a].when })
	return list
}

func (m *model) clear() { m.things = map[string]use{} }

// pair is a cache and the model of it, to which each call is made at once.
type pair struct {
	t     *testing.T
	cache *lru.Cache[int]
	model *model
	calls []string
}

func newPair(t *testing.T, room int) *pair {
	c := lru.New[int](room)
	if c == nil {
		t.Fatalf("New(%d) is nil", room)
	}
	p := &pair{t: t, cache: c, model: newModel(room), calls: []string{fmt.Sprintf("New(%d)", room)}}
	p.check()
	return p
}

func (p *pair) did(form string, args ...any) { p.calls = append(p.calls, fmt.Sprintf(form, args...)) }

// fail tells the last calls with what was wrong behind them.
func (p *pair) fail(form string, args ...any) {
	p.t.Helper()
	calls := p.calls
	if len(calls) > 12 {
		calls = append([]string{calls[0], ".."}, calls[len(calls)-10:]...)
	}
	p.t.Fatalf("%v: %s", calls, fmt.Sprintf(form, args...))
}

// check holds all that can be asked without a change to the model, at its keys and at some others.
func (p *pair) check(others ...string) {
	p.t.Helper()
	c, m := p.cache, p.model
	if c.Used() < 0 || uint64(c.Used()) != m.used() || uint64(c.Used()) > m.room {
		p.fail("Used is %d, not %d, of a room of %d", c.Used(), m.used(), m.room)
	}
	if c.Reserved() < 0 || uint64(c.Reserved()) != m.reserved {
		p.fail("Reserved is %d, not %d", c.Reserved(), m.reserved)
	}
	keys := m.keys()
	if list := c.Keys(); !slices.Equal(list, keys) {
		p.fail("Keys is %s, not %s", short(list), short(keys))
	}
	for _, k := range append(keys, others...) {
		want, there := m.things[k]
		if v, ok := c.Peek(k); v != want.value || ok != there {
			p.fail("Peek of %q is %d, %v, not %d, %v", k, v, ok, want.value, there)
		}
	}
	if list := c.Keys(); !slices.Equal(list, keys) {
		p.fail("behind Peek Keys is %s, not %s", short(list), short(keys))
	}
}

func (p *pair) answered(gone []string, ok bool, wantGone []string, wantOK bool) {
	p.t.Helper()
	if !slices.Equal(gone, wantGone) || ok != wantOK {
		p.fail("is %s, %v, not %s, %v", short(gone), ok, short(wantGone), wantOK)
	}
}

func (p *pair) put(key string, size, v int) {
	p.t.Helper()
	p.did("Put(%q, %d, %d)", key, size, v)
	gone, ok := p.cache.Put(key, size, v)
	wantGone, wantOK := p.model.put(key, size, v)
	p.answered(gone, ok, wantGone, wantOK)
	p.check(append(gone, key)...)
}

func (p *pair) get(key string) {
	p.t.Helper()
	p.did("Get(%q)", key)
	v, ok := p.cache.Get(key)
	if want, there := p.model.get(key); v != want || ok != there {
		p.fail("is %d, %v, not %d, %v", v, ok, want, there)
	}
	p.check(key)
}

func (p *pair) drop(key string) {
	p.t.Helper()
	p.did("Drop(%q)", key)
	ok := p.cache.Drop(key)
	if want := p.model.drop(key); ok != want {
		p.fail("is %v", ok)
	}
	p.check(key)
}

func (p *pair) reserve(n int) {
	p.t.Helper()
	p.did("Reserve(%d)", n)
	gone, ok := p.cache.Reserve(n)
	wantGone, wantOK := p.model.reserve(n)
	p.answered(gone, ok, wantGone, wantOK)
	p.check(gone...)
}

func (p *pair) release(n int) {
	p.t.Helper()
	p.did("Release(%d)", n)
	p.cache.Release(n)
	p.model.release(n)
	p.check()
}

func (p *pair) clear() {
	p.t.Helper()
	p.did("Clear()")
	had := p.cache.Keys()
	p.cache.Clear()
	p.model.clear()
	p.check(had...)
}

// short keeps what a failing test tells within bounds.
func short(list []string) string {
	if len(list) > 20 {
		return fmt.Sprintf("%.40q.. (%d keys)", list[:20], len(list))
	}
	return fmt.Sprintf("%.40q", list)
}
