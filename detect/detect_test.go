package detect_test

import (
	"fmt"
	"math"
	"math/rand"
	"slices"
	"strings"
	"testing"

	"meridian/api"
	"meridian/detect"
)

// The exact signatures: another one would not build.
var (
	_ func(int, ...string) *detect.Detector = detect.New
	_ func(*detect.Detector, string) bool   = (*detect.Detector).Beat
	_ func(*detect.Detector) []string       = (*detect.Detector).Tick
	_ func(*detect.Detector, string) bool   = (*detect.Detector).Alive
	_ func(*detect.Detector) []string       = (*detect.Detector).Live
	_ func(*detect.Detector) int64          = (*detect.Detector).Changes
)

// P11.1: the chapter's example.
func TestExample(t *testing.T) {
	d := detect.New(2, "a", "b")
	if dead := d.Tick(); len(dead) != 0 {
		t.Errorf("Tick is %q", dead)
	}
	if d.Beat("a") {
		t.Error("Beat of a is true")
	}
	if dead := d.Tick(); !slices.Equal(dead, []string{"b"}) {
		t.Errorf("Tick is %q", dead)
	}
	if !d.Alive("a") {
		t.Error("Alive of a is false")
	}
	if !d.Beat("b") {
		t.Error("Beat of b is false")
	}
	if n := d.Changes(); n != 2 {
		t.Errorf("Changes is %d", n)
	}
}

// named is n different names, rising.
func named(n int) []string {
	var out []string
	for i := range n {
		out = append(out, fmt.Sprintf("n%05d", i))
	}
	return out
}

// P11.1: New of no node, of one, of many, of the same node several times, and of the empty text.
func TestNew(t *testing.T) {
	for _, c := range []struct{ nodes, want []string }{
		{nil, nil},
		{[]string{}, nil},
		{[]string{""}, []string{""}},
		{[]string{"", "", ""}, []string{""}},
		{[]string{"a"}, []string{"a"}},
		{[]string{"a", "a"}, []string{"a"}},
		{[]string{"b", "a"}, []string{"a", "b"}},
		{[]string{"b", "", "a"}, []string{"", "a", "b"}},
		{[]string{"b", "a", "b", "b", "a", "c", "b"}, []string{"a", "b", "c"}},
		{[]string{"c", "", "b", "", "a", ""}, []string{"", "a", "b", "c"}},
	} {
		for _, patience := range []int{-1, 1, 2, 5} {
			p := newPair(t, patience, c.nodes...)
			p.lives(0, c.want...)
			for range c.want {
				p.beats("none", false)
			}
			p.ticks(max(patience, 1) - 1)
			p.lives(0, c.want...)
			p.dies(c.want...)
			p.lives(int64(len(c.want)))
			p.ticks(3)
			for i, node := range c.want {
				p.beats(node, true)
				p.beats(node, false)
				p.lives(int64(len(c.want)+i+1), c.want[:i+1]...)
			}
		}
	}
}

// P11.1: the number of nodes has no limit.
func TestManyNodes(t *testing.T) {
	for _, n := range []int{api.MaxNodes - 1, api.MaxNodes, api.MaxNodes + 1, 16, 17, 255, 256, 257, 400} {
		nodes := named(n)
		mixed := slices.Concat(nodes, nodes[:n/2])
		rand.New(rand.NewSource(int64(n))).Shuffle(len(mixed), func(i, j int) { mixed[i], mixed[j] = mixed[j], mixed[i] })
		p := newPair(t, 2, mixed...)
		p.lives(0, nodes...)
		p.dies()
		p.beats(nodes[n/2], false)
		p.dies(slices.Concat(nodes[:n/2], nodes[n/2+1:])...)
		p.lives(int64(n-1), nodes[n/2])
		p.dies(nodes[n/2])
		p.lives(int64(n))
	}
	nodes := named(60000)
	d := detect.New(1, nodes...)
	if live := d.Live(); !slices.Equal(live, nodes) {
		t.Errorf("%d nodes live", len(live))
	}
	if dead := d.Tick(); !slices.Equal(dead, nodes) || d.Changes() != int64(len(nodes)) || len(d.Live()) != 0 {
		t.Errorf("%d nodes died, Changes is %d, %d live", len(dead), d.Changes(), len(d.Live()))
	}
}

// P11.1: each byte of a node's text counts, also where it has none.
func TestTexts(t *testing.T) {
	nodes := []string{"", "\x00", "\x00\x00", "A", "a", "a\x00", "a\x00b", "aa", "e\u0301", strings.Repeat("x", api.MaxKey),
		strings.Repeat("x", api.MaxKey+1), strings.Repeat("x", 4999) + "w", strings.Repeat("x", 5000), "\xc3", "é", "\ufffd", "\xff", "\xff\xff"}
	slices.Sort(nodes)
	for i, node := range nodes {
		others := slices.Concat(nodes[:i], nodes[i+1:])
		p := newPair(t, 2, nodes...)
		p.ticks(1)
		p.beats(node, false)
		p.dies(others...)
		p.lives(int64(len(others)), node)
		p = newPair(t, 1, others...)
		p.beats(node, false)
		p.lives(0, others...)
		p.dies(others...)
		p.beats(node, false)
		p.lives(int64(len(others)))
	}
}

// P11.1: a patience below 1 is 1: a node dies with the first tick in which it isn't heard of.
func TestPatienceBelowOne(t *testing.T) {
	for _, patience := range []int{1, 0, -1, -2, -api.DeadTicks, math.MinInt32, -1 << 32, math.MinInt + 1, math.MinInt} {
		p := newPair(t, patience, "a", "b")
		p.lives(0, "a", "b")
		p.dies("a", "b")
		p.lives(2)
		p.dies()
		p.beats("b", true)
		p.beats("b", false)
		p.lives(3, "b")
		p.dies("b")
		p.lives(4)
		p.beats("a", true)
		p.beats("b", true)
		p.lives(6, "a", "b")
		p.dies("a", "b")
		p.lives(8)
	}
}

// P11.1, P11.2: a patience of 1, of 2 and of many: a node dies with just that tick, from its beginning on and from each Beat.
func TestPatience(t *testing.T) {
	for _, patience := range []int{1, 2, 3, api.DeadTicks - 1, api.DeadTicks, api.DeadTicks + 1, 20, 127, 128, 255, 256, 257, 1000} {
		p := newPair(t, patience, "a")
		p.ticks(patience - 1)
		p.lives(0, "a")
		p.dies("a")
		p.lives(1)
		p.ticks(patience + 1)
		p.beats("a", true)
		p.lives(2, "a")
		p.ticks(patience - 1)
		p.beats("a", false)
		p.lives(2, "a")
		p.ticks(patience - 1)
		p.dies("a")
		p.lives(3)
		p.beats("a", true)
		p.ticks(patience / 2)
		p.beats("a", false)
		p.ticks(patience - 1)
		p.dies("a")
		p.lives(5)
	}
}

// P11.1, P11.2: with a patience beyond all ticks, the greatest that an int holds among them, no node dies.
func TestGreatPatience(t *testing.T) {
	for _, patience := range []int{1 << 31, 1 << 32, 1<<32 + 1, api.MaxNumber, 1 << 62, math.MaxInt - 1, math.MaxInt} {
		p := newPair(t, patience, "a", "b")
		for range 50 {
			p.ticks(5)
			p.beats("a", false)
			p.lives(0, "a", "b")
		}
		p.beats("b", false)
		p.ticks(50)
		p.lives(0, "a", "b")
	}
	for _, patience := range []int{1 << 16, 1<<16 + 1, 1 << 20} {
		d := detect.New(patience, "a")
		d.Tick()
		d.Beat("a")
		for range patience - 1 {
			if dead := d.Tick(); len(dead) != 0 {
				t.Fatalf("patience %d: %q died ahead of it", patience, dead)
			}
		}
		if dead := d.Tick(); !slices.Equal(dead, []string{"a"}) || d.Changes() != 1 {
			t.Errorf("patience %d: %q died, Changes is %d", patience, dead, d.Changes())
		}
	}
}

// P11.1, P11.2: Beat just ahead of the patience's last tick, just behind it, and later.
func TestBeatAtTheLastTick(t *testing.T) {
	for _, patience := range []int{1, 2, 3, 7} {
		for ahead := range 4 * patience {
			p := newPair(t, patience, "a")
			for range ahead {
				p.tick()
			}
			dead := ahead >= patience
			p.beats("a", dead)
			changes := int64(0)
			if dead {
				changes = 2
			}
			p.lives(changes, "a")
			p.beats("a", false)
			p.ticks(patience - 1)
			p.lives(changes, "a")
			p.dies("a")
			p.lives(changes + 1)
		}
	}
}

// P11.1: Beat of a text that is none of the nodes is false, and neither makes it one nor changes anything.
func TestStrangers(t *testing.T) {
	strangers := []string{"", "b", "A", "a ", "aa", "a\x00", strings.Repeat("a", 1000)}
	for _, nodes := range [][]string{nil, {"a"}} {
		p := newPair(t, 2, nodes...)
		for _, s := range strangers {
			p.beats(s, false)
			p.beats(s, false)
			p.lives(0, nodes...)
		}
		p.ticks(1)
		for _, s := range strangers {
			p.beats(s, false)
		}
		p.dies(nodes...)
		for _, s := range strangers {
			p.beats(s, false)
			p.lives(int64(len(nodes)))
		}
		p.ticks(5)
		for _, s := range strangers {
			p.beats(s, false)
			p.lives(int64(len(nodes)))
		}
	}
}

// P11.1: asking whether a stranger lives doesn't make it a node.
func TestAskingForAStranger(t *testing.T) {
	d := detect.New(1, "b")
	for range 3 {
		if d.Alive("a") || d.Alive("") {
			t.Error("a stranger lives")
		}
	}
	if live := d.Live(); !slices.Equal(live, []string{"b"}) {
		t.Errorf("Live is %q", live)
	}
	if dead := d.Tick(); !slices.Equal(dead, []string{"b"}) {
		t.Errorf("Tick is %q", dead)
	}
	if d.Beat("a") || d.Alive("a") || d.Changes() != 1 {
		t.Errorf("the stranger came to be a node, Changes is %d", d.Changes())
	}
}

// P11.1: Tick where no node dies, where one does, where several do at once, and where all are dead already.
func TestTick(t *testing.T) {
	p := newPair(t, 3, "d", "b", "", "c", "a", "e")
	p.dies()
	p.beats("a", false)
	p.beats("c", false)
	p.dies()
	p.beats("e", false)
	p.lives(0, "", "a", "b", "c", "d", "e")
	p.dies("", "b", "d")
	p.lives(3, "a", "c", "e")
	p.dies("a", "c")
	p.lives(5, "e")
	p.dies("e")
	p.lives(6)
	p.dies()
	p.dies()
	p.lives(6)
	p.beats("b", true)
	p.dies()
	p.beats("", true)
	p.dies()
	p.lives(8, "", "b")
	p.dies("b")
	p.dies("")
	p.dies()
	p.lives(10)
}

// P11.1: those that die at once are told rising, each once, whatever the order in which they were handed in and heard of.
func TestDeadRise(t *testing.T) {
	r := rand.New(rand.NewSource(110))
	for _, want := range [][]string{{"a", "b"}, {"", "B", "a", "aa", "b"}, {"\x00", "10", "9", "a", "a\x00", "\xff"}, named(40)} {
		for range 200 {
			var nodes []string
			for _, place := range r.Perm(len(want)) {
				nodes = append(nodes, want[place])
			}
			d := detect.New(2, nodes...)
			d.Tick()
			for _, place := range r.Perm(len(want)) {
				d.Beat(want[place])
			}
			if live := d.Live(); !slices.Equal(live, want) {
				t.Fatalf("New of %q: Live is %q", nodes, live)
			}
			if dead := d.Tick(); len(dead) != 0 {
				t.Fatalf("New of %q: Tick is %q", nodes, dead)
			}
			if dead := d.Tick(); !slices.Equal(dead, want) {
				t.Fatalf("New of %q: Tick is %q", nodes, dead)
			}
		}
	}
}

// P11.1: the slices of Live and of Tick are the caller's, spare room too.
func TestAnswersAreTheCallers(t *testing.T) {
	spoil := func(s []string) {
		for i := range s[:cap(s)] {
			s[:cap(s)][i] = "spoilt"
		}
		_ = append(s, "more")
	}
	for n := range 8 {
		nodes := named(n)
		p := newPair(t, 2, nodes...)
		one, other := p.detector.Live(), p.detector.Live()
		spoil(one)
		if !slices.Equal(other, nodes) {
			t.Errorf("another answer is %q, not %q", other, nodes)
		}
		p.lives(0, nodes...)
		p.same()
		p.dies()
		if n > 0 {
			p.beats(nodes[0], false)
		}
		dead := p.tick()
		want := slices.Clone(dead)
		later := p.detector.Live()
		spoil(later)
		for _, node := range nodes {
			p.beat(node)
		}
		p.tick()
		p.tick()
		if !slices.Equal(dead, want) || !slices.Equal(other, nodes) {
			t.Errorf("answers are %q and %q behind later calls, not %q and %q", dead, other, want, nodes)
		}
		spoil(dead)
		p.same()
		for _, node := range nodes {
			p.beats(node, true)
		}
		p.lives(p.detector.Changes(), nodes...)
	}
}

// P11.1: a slice that is handed to New is neither changed nor kept, spare room included.
func TestNodesAreTheCallers(t *testing.T) {
	room := []string{"b", "a", "b", "", "x", "y"}
	handed := room[:4]
	p := newPair(t, 2, handed...)
	if !slices.Equal(room, []string{"b", "a", "b", "", "x", "y"}) {
		t.Errorf("New changed its nodes to %q", room)
	}
	for i := range room {
		room[i] = "spoilt"
	}
	p.lives(0, "", "a", "b")
	p.same()
	p.beats("spoilt", false)
	p.beats("x", false)
	p.ticks(1)
	p.beats("a", false)
	p.dies("", "b")
	p.lives(2, "a")
	for _, s := range room {
		if s != "spoilt" {
			t.Errorf("later calls changed the nodes to %q", room)
		}
	}
}

// P11.1: a node's bytes may be used anew behind the call.
func TestTextIsTheCallers(t *testing.T) {
	b := []byte("a")
	p := newPair(t, 1, string(b))
	b[0] = 'b'
	p.dies("a")
	p.beats(string(b), false)
	b[0] = 'a'
	p.beats(string(b), true)
	b[0] = 'c'
	p.lives(2, "a")
}

// P11.1: Changes counts each death and each return, and nothing else: no Beat of a living node, none of a stranger, no empty Tick.
func TestChanges(t *testing.T) {
	p := newPair(t, 2, "a", "b", "c")
	for range 20 {
		p.beats("a", false)
		p.beats("none", false)
		p.lives(0, "a", "b", "c")
	}
	p.ticks(1)
	p.lives(0, "a", "b", "c")
	p.beats("c", false)
	p.dies("a", "b")
	p.lives(2, "c")
	p.dies("c")
	p.lives(3)
	for range 20 {
		p.dies()
		p.beats("none", false)
		p.lives(3)
	}
	p.beats("b", true)
	p.lives(4, "b")
	p.beats("b", false)
	p.beats("a", true)
	p.lives(5, "a", "b")
	p.ticks(1)
	p.lives(5, "a", "b")
	p.dies("a", "b")
	p.lives(7)
}

// P11.1: there may be as many deaths and returns as one likes.
func TestManyChanges(t *testing.T) {
	d, want := detect.New(1, "a", "b"), int64(0)
	for range 40000 {
		if dead := d.Tick(); !slices.Equal(dead, []string{"a", "b"}) {
			t.Fatalf("Tick is %q", dead)
		}
		if !d.Beat("a") || !d.Beat("b") {
			t.Fatal("Beat is false")
		}
		want += 4
		if n := d.Changes(); n != want {
			t.Fatalf("Changes is %d, not %d", n, want)
		}
	}
}

// P11.1: the calls that only ask change nothing, and answer the same as often as they are made.
func TestAskingChangesNothing(t *testing.T) {
	p := newPair(t, 3, "a", "b", "c")
	for _, c := range []call{{tick: true}, {node: "a"}, {tick: true}, {node: "b"}, {tick: true}, {tick: true}, {node: "c"}, {tick: true}, {tick: true}} {
		p.do(c)
		for range 20 {
			p.same()
		}
	}
}

// P11.1: a nil detector has no nodes.
func TestNil(t *testing.T) {
	var d *detect.Detector
	for range 3 {
		for _, node := range []string{"", "a"} {
			if d.Beat(node) || d.Alive(node) {
				t.Errorf("%q is a node", node)
			}
		}
		if dead := d.Tick(); len(dead) != 0 {
			t.Errorf("Tick is %q", dead)
		}
		if live := d.Live(); len(live) != 0 {
			t.Errorf("Live is %q", live)
		}
		if n := d.Changes(); n != 0 {
			t.Errorf("Changes is %d", n)
		}
	}
}

// P11.1: two detectors have nothing of each other, though they were made of one slice.
func TestTwoDetectors(t *testing.T) {
	nodes := []string{"b", "a"}
	p, q := newPair(t, 1, nodes...), newPair(t, 2, nodes...)
	if p.detector == q.detector || detect.New(1) == detect.New(1) {
		t.Error("the same detector is answered twice")
	}
	p.dies("a", "b")
	q.lives(0, "a", "b")
	q.same()
	q.ticks(1)
	q.beats("a", false)
	p.lives(2)
	p.beats("b", true)
	q.dies("b")
	p.lives(3, "b")
	p.same()
}

// P11.1, P11.2: each run of nine calls of two nodes, and each of seven of three.
func TestEachRunOfFewCalls(t *testing.T) {
	for _, c := range []struct {
		nodes []string
		calls int
	}{{[]string{"b", "a"}, 9}, {[]string{"b", "a", ""}, 7}} {
		each := []call{{tick: true}}
		for _, node := range c.nodes {
			each = append(each, call{node: node})
		}
		runs := 1
		for range c.calls {
			runs *= len(each)
		}
		for patience := range 4 {
			for n := range runs {
				p := newPair(t, patience, c.nodes...)
				for rest, i := n, 0; i < c.calls; rest, i = rest/len(each), i+1 {
					p.do(each[rest%len(each)])
				}
			}
		}
	}
}

// byChance is a Tick or a Beat, now and then of a stranger.
func byChance(r *rand.Rand, nodes []string, ticks int) call {
	if r.Intn(100) < ticks {
		return call{tick: true}
	}
	if len(nodes) == 0 || r.Intn(20) == 0 {
		return call{node: fmt.Sprintf("s%d", r.Intn(3))}
	}
	return call{node: nodes[r.Intn(len(nodes))]}
}

// P11.1, P11.2: calls by chance, with several patiences and numbers of nodes.
func TestCallsByChance(t *testing.T) {
	r := rand.New(rand.NewSource(11))
	for _, patience := range []int{0, 1, 2, 3, api.DeadTicks, 10, math.MaxInt} {
		for _, n := range []int{0, 1, 2, 5, api.MaxNodes, 30} {
			for _, ticks := range []int{5, 30, 80} {
				nodes := named(n)
				r.Shuffle(n, func(i, j int) { nodes[i], nodes[j] = nodes[j], nodes[i] })
				p := newPair(t, patience, nodes...)
				for range 600 {
					p.do(byChance(r, nodes, ticks))
				}
			}
		}
	}
}

// P11.2, without the model: a node that is heard of at least once in as many ticks as the patience lives always, whatever the
// others do: among the moment that is and those just ahead of it, as many together as the patience, is one with a Beat.
func TestHeardOfLives(t *testing.T) {
	r := rand.New(rand.NewSource(111))
	for patience := 2; patience <= 6; patience++ {
		for _, worst := range []bool{true, false} {
			d, since := detect.New(patience, "one", "two", "three"), 0
			for range 3000 {
				// The worst is a Beat that comes as late as it may: without it the next Tick would be the patience's last one.
				if since == patience-1 || !worst && r.Intn(patience) == 0 {
					if d.Beat("one") {
						t.Fatalf("patience %d: it was dead", patience)
					}
					since = 0
				}
				if r.Intn(5) == 0 {
					d.Beat("two")
				}
				since++
				if dead := d.Tick(); slices.Contains(dead, "one") || !d.Alive("one") || !slices.Contains(d.Live(), "one") {
					t.Fatalf("patience %d: it is dead, %q", patience, dead)
				}
			}
			if d.Changes() == 0 || d.Alive("three") {
				t.Errorf("patience %d: the others didn't die", patience)
			}
		}
	}
}

// P11.2, without the model: one that isn't heard of dies just with the patience's last tick, is told then and never again,
// stays dead, and lives again with its next Beat.
func TestUnheardDies(t *testing.T) {
	r := rand.New(rand.NewSource(1111))
	for patience := 1; patience <= 6; patience++ {
		d, want := detect.New(patience, "one"), int64(0)
		for range 300 {
			for i := 1; i <= patience+r.Intn(8); i++ {
				dead := d.Tick()
				if (i == patience) != slices.Equal(dead, []string{"one"}) || i != patience && len(dead) != 0 {
					t.Fatalf("patience %d: Tick %d is %q", patience, i, dead)
				}
				if d.Alive("one") != (i < patience) || len(d.Live()) == 1 != (i < patience) {
					t.Fatalf("patience %d: behind Tick %d Alive is %v, Live %q", patience, i, d.Alive("one"), d.Live())
				}
			}
			if !d.Beat("one") || !d.Alive("one") || !slices.Equal(d.Live(), []string{"one"}) {
				t.Fatalf("patience %d: it didn't come back", patience)
			}
			want += 2
			if n := d.Changes(); n != want {
				t.Fatalf("patience %d: Changes is %d, not %d", patience, n, want)
			}
		}
	}
}

// P11.1, P11.2, without the model: what is answered at any moment is what the list of all calls up to then says.
func TestFromTheListOfCalls(t *testing.T) {
	r := rand.New(rand.NewSource(11111))
	nodes := named(4)
	for patience := 1; patience <= 5; patience++ {
		for range 20 {
			d, heard, changes, lived := detect.New(patience, nodes...), [][]string{nodes}, int64(0), nodes
			for range 60 {
				c := byChance(r, nodes, 60)
				if c.tick {
					d.Tick()
					heard = append(heard, nil)
				} else {
					d.Beat(c.node)
					heard[len(heard)-1] = append(slices.Clone(heard[len(heard)-1]), c.node)
				}
				late := slices.Concat(heard[max(len(heard)-patience, 0):]...)
				var live []string
				for _, node := range nodes {
					if slices.Contains(late, node) {
						live = append(live, node)
					}
					if slices.Contains(late, node) != slices.Contains(lived, node) {
						changes++
					}
				}
				lived = live
				if got := d.Live(); !slices.Equal(got, live) || d.Changes() != changes {
					t.Fatalf("patience %d: Live is %q, Changes %d, not %q and %d, of %q", patience, got, d.Changes(), live, changes, heard)
				}
			}
		}
	}
}
