package detect_test

import (
	"fmt"
	"slices"
	"testing"

	"meridian/detect"
)

// one is a node and the ticks that it has left to live; 0 is dead.
type one struct {
	node string
	left int
}

// model knows no moments: it counts down what each node has left.
type model struct {
	patience int
	nodes    []one
	deaths   int
	returns  int
}

func modelOf(patience int, nodes ...string) *model {
	m := &model{patience: patience}
	if patience < 1 {
		m.patience = 1
	}
	for _, node := range nodes {
		if m.find(node) == nil {
			m.nodes = append(m.nodes, one{node, m.patience})
		}
	}
	return m
}

func (m *model) find(node string) *one {
	for i := range m.nodes {
		if m.nodes[i].node == node {
			return &m.nodes[i]
		}
	}
	return nil
}

func (m *model) beat(node string) bool {
	o := m.find(node)
	if o == nil {
		return false
	}
	back := o.left == 0
	o.left = m.patience
	if back {
		m.returns++
	}
	return back
}

func (m *model) tick() []string {
	var dead []string
	for i := range m.nodes {
		if o := &m.nodes[i]; o.left > 0 {
			o.left--
			if o.left == 0 {
				dead = append(dead, o.node)
				m.deaths++
			}
		}
	}
	return ranked(dead)
}

func (m *model) alive(node string) bool {
	o := m.find(node)
	return o != nil && o.left > 0
}

func (m *model) live() []string {
	var out []string
	for _, o := range m.nodes {
		if o.left > 0 {
			out = append(out, o.node)
		}
	}
	return ranked(out)
}

// ranked puts each of some different texts at the place that is the number of those less than it.
func ranked(texts []string) []string {
	out := make([]string, len(texts))
	for _, x := range texts {
		place := 0
		for _, y := range texts {
			if y < x {
				place++
			}
		}
		out[place] = x
	}
	return out
}

// call is a Beat of a node, or a Tick.
type call struct {
	tick bool
	node string
}

func (c call) String() string {
	if c.tick {
		return "Tick()"
	}
	return fmt.Sprintf("Beat(%.40q)", c.node)
}

// pair is a detector and the model of it, to which each call is made at once.
type pair struct {
	t        *testing.T
	detector *detect.Detector
	model    *model
	calls    []call
	names    []string
}

func newPair(t *testing.T, patience int, nodes ...string) *pair {
	t.Helper()
	p := &pair{t: t, detector: detect.New(patience, nodes...), model: modelOf(patience, nodes...), names: []string{"", "none"}}
	p.names = append(p.names, nodes...)
	if p.detector == nil {
		p.fail("is nil")
	}
	p.same()
	return p
}

// fail tells the last calls with what was wrong behind them.
func (p *pair) fail(form string, args ...any) {
	p.t.Helper()
	late := p.calls[max(len(p.calls)-12, 0):]
	p.t.Fatalf("patience %d, %d calls, of which the last %v: %s", p.model.patience, len(p.calls), late, fmt.Sprintf(form, args...))
}

// same holds all that can be asked without a change to the model: Live, Changes, and Alive of each text that was ever spoken of.
func (p *pair) same() {
	p.t.Helper()
	if live := p.detector.Live(); !slices.Equal(live, p.model.live()) {
		p.fail("Live is %.40q, not %.40q", live, p.model.live())
	}
	if n := p.detector.Changes(); n != int64(p.model.deaths+p.model.returns) {
		p.fail("Changes is %d, not %d and %d", n, p.model.deaths, p.model.returns)
	}
	for _, name := range p.names {
		if ok := p.detector.Alive(name); ok != p.model.alive(name) {
			p.fail("Alive(%.40q) is %v", name, ok)
		}
	}
}

// do makes a call, and holds its answer, and what can be asked behind it, to the model.
func (p *pair) do(c call) {
	p.t.Helper()
	if c.tick {
		p.tick()
	} else {
		p.beat(c.node)
	}
}

func (p *pair) beat(node string) bool {
	p.t.Helper()
	p.calls = append(p.calls, call{node: node})
	if !slices.Contains(p.names, node) {
		p.names = append(p.names, node)
	}
	got, want := p.detector.Beat(node), p.model.beat(node)
	if got != want {
		p.fail("is %v", got)
	}
	p.same()
	return got
}

func (p *pair) tick() []string {
	p.t.Helper()
	p.calls = append(p.calls, call{tick: true})
	got, want := p.detector.Tick(), p.model.tick()
	if !slices.Equal(got, want) {
		p.fail("is %.40q, not %.40q", got, want)
	}
	p.same()
	return got
}

// The calls whose answers a test tells in plain words.

// beats holds Beat of a node to the answer that is told.
func (p *pair) beats(node string, back bool) {
	p.t.Helper()
	if got := p.beat(node); got != back {
		p.fail("is %v", got)
	}
}

// ticks lets so many ticks go by in which no node dies.
func (p *pair) ticks(n int) {
	p.t.Helper()
	for range n {
		p.dies()
	}
}

// dies lets a tick go by in which just these nodes die.
func (p *pair) dies(nodes ...string) {
	p.t.Helper()
	if got := p.tick(); !slices.Equal(got, nodes) {
		p.fail("is %.40q, not %.40q", got, nodes)
	}
}

// lives holds a detector to how often its nodes died or came back, and to those that live.
func (p *pair) lives(changes int64, nodes ...string) {
	p.t.Helper()
	if got := p.detector.Live(); !slices.Equal(got, nodes) {
		p.fail("Live is %.40q, not %.40q", got, nodes)
	}
	if n := p.detector.Changes(); n != changes {
		p.fail("Changes is %d, not %d", n, changes)
	}
	for _, name := range p.names {
		if ok := p.detector.Alive(name); ok != slices.Contains(nodes, name) {
			p.fail("Alive(%.40q) is %v", name, ok)
		}
	}
}
