package lease_test

import (
	"fmt"
	"math"
	"math/rand"
	"strings"
	"testing"

	"meridian/api"
	"meridian/lease"
)

// The exact signatures: another one would not build.
var (
	_ func(int, int) *lease.Table              = lease.New
	_ func(int, int, int64) *lease.Table       = lease.Again
	_ func(*lease.Table, string) (int64, bool) = (*lease.Table).Grant
	_ func(*lease.Table, string, int64) bool   = (*lease.Table).Use
	_ func(*lease.Table, string) bool          = (*lease.Table).Kill
	_ func(*lease.Table)                       = (*lease.Table).Tick
	_ func(*lease.Table) int                   = (*lease.Table).Len
	_ func(*lease.Table)                       = (*lease.Table).Clear
	_ func(*lease.Table) int64                 = (*lease.Table).Granted
)

// granted makes a Grant whose answer is told here in plain numbers: the token, or 0 where it is to be refused.
func (p *pair) granted(key string, token int64) {
	p.t.Helper()
	p.calls = append(p.calls, call{kind: "grant", key: key})
	if n, ok := p.table.Grant(key); n != token || ok != (token != 0) {
		p.fail("is %d, %v, not %d, %v", n, ok, token, token != 0)
	}
	p.model.grant(key)
	p.has(p.model.len(), p.model.last)
}

// used makes a Use whose answer is told here.
func (p *pair) used(key string, token int64, want bool) {
	p.t.Helper()
	p.calls = append(p.calls, call{"use", key, token})
	if ok := p.table.Use(key, token); ok != want {
		p.fail("is %v", ok)
	}
	p.model.use(key, token)
	p.has(p.model.len(), p.model.last)
}

// killed makes a Kill whose answer is told here.
func (p *pair) killed(key string, want bool) {
	p.t.Helper()
	p.calls = append(p.calls, call{kind: "kill", key: key})
	if ok := p.table.Kill(key); ok != want {
		p.fail("is %v", ok)
	}
	p.model.kill(key)
	p.has(p.model.len(), p.model.last)
}

// P7.1: the chapter's example.
func TestExample(t *testing.T) {
	l := lease.New(1, 2)
	if n, ok := l.Grant("a"); n != 1 || !ok {
		t.Errorf("Grant is %d, %v", n, ok)
	}
	for _, k := range []string{"a", "b"} {
		if n, ok := l.Grant(k); n != 0 || ok {
			t.Errorf("Grant of %q is %d, %v", k, n, ok)
		}
	}
	if l.Use("a", 2) {
		t.Error("Use with another token is true")
	}
	if !l.Use("a", 1) {
		t.Error("Use is false")
	}
	if l.Use("a", 1) {
		t.Error("Use is true a second time")
	}
	if n, ok := l.Grant("b"); n != 2 || !ok {
		t.Errorf("Grant is %d, %v", n, ok)
	}
}

// P7.1, P7.3: a limit below 1 is none; each other is just so many leases.
func TestLimit(t *testing.T) {
	for _, limit := range []int{0, -1, -2, -api.MaxLeases, math.MinInt32, math.MinInt + 1, math.MinInt} {
		for _, p := range []*pair{newPair(t, limit, 2), newPairAgain(t, limit, 2, 7)} {
			last := p.table.Granted()
			for range 2 {
				p.granted("a", 0)
				p.granted("", 0)
				p.used("a", 0, false)
				p.used("a", last+1, false)
				p.killed("a", false)
				p.tick(1)
				p.clear()
			}
			p.has(0, last)
		}
	}
	for _, limit := range []int{1, 2, 3, api.MaxLeases - 1, api.MaxLeases, api.MaxLeases + 1, 300} {
		p := newPair(t, limit, 2)
		for i := 1; i <= limit; i++ {
			p.granted(fmt.Sprint(i), int64(i))
			p.has(i, int64(i))
		}
		p.granted("one more", 0)
		p.granted("1", 0)
		p.has(limit, int64(limit))
		p.killed("1", true)
		p.has(limit-1, int64(limit))
		p.granted("one more", int64(limit+1))
		p.granted("1", 0)
		p.has(limit, int64(limit+1))
	}
	for _, limit := range []int{1 << 31, 1 << 32, math.MaxInt - 1, math.MaxInt} {
		p := newPair(t, limit, 2)
		for i := 1; i <= 100; i++ {
			p.granted(fmt.Sprint(i), int64(i))
		}
		p.useAll()
	}
}

// P7.1, P7.2, P7.3: ticks below 1 are one; behind each other number of ticks a lease goes, and behind one fewer it is
// there.
func TestTicks(t *testing.T) {
	for _, ticks := range []int{1, 2, 3, api.LeaseTicks - 1, api.LeaseTicks, api.LeaseTicks + 1, 300, 0, -1, -2, -api.LeaseTicks,
		math.MinInt32, math.MinInt + 1, math.MinInt} {
		has := ticks
		if ticks < 1 {
			has = 1
		}
		for _, last := range []int64{0, 41} {
			one := newPairAgain(t, 1, ticks, last)
			one.granted("a", last+1)
			for range has - 1 {
				one.tick(1)
				one.has(1, last+1)
			}
			one.granted("a", 0)
			one.used("a", last+1, true)
			one.granted("a", last+2)
			one.tick(has)
			one.has(0, last+2)
			one.used("a", last+2, false)
			one.killed("a", false)
			one.granted("a", last+3)
			one.tick(has - 1)
			one.killed("a", true)
		}
		p := newPair(t, 1, ticks)
		p.granted("a", 1)
		p.tick(has - 1)
		p.has(1, 1)
		p.tick(1)
		p.has(0, 1)
		p.used("a", 1, false)
	}
	for _, ticks := range []int{1 << 31, 1<<32 + 1, math.MaxInt - 1, math.MaxInt} {
		p := newPair(t, 1, ticks)
		p.granted("a", 1)
		p.tick(1000)
		p.has(1, 1)
		p.used("a", 1, true)
	}
}

// P7.1: a Grant of a new key, of one that has a lease, into a table with one lease fewer than its limit, and into a full
// one; a Grant that is refused changes nothing.
func TestGrant(t *testing.T) {
	p := newPair(t, 3, 2)
	p.granted("a", 1)
	p.granted("a", 0)
	p.granted("b", 2)
	p.granted("a", 0)
	p.granted("b", 0)
	p.has(2, 2)
	p.granted("c", 3)
	for _, k := range []string{"a", "b", "c", "d", "", "d"} {
		p.granted(k, 0)
	}
	p.has(3, 3)
	p.used("d", 4, false)
	p.used("d", 0, false)
	p.killed("d", false)
	p.used("b", 2, true)
	p.granted("d", 4)
	p.granted("b", 0)
	p.used("a", 1, true)
	p.used("c", 3, true)
	p.used("d", 4, true)
	p.has(0, 4)
}

// P7.1: a Grant that is refused doesn't give the lease new ticks, nor does a Use with another token.
func TestRefusedLeavesTicks(t *testing.T) {
	for _, limit := range []int{1, 2} {
		p := newPair(t, limit, 3)
		p.granted("a", 1)
		for range 2 {
			p.tick(1)
			p.granted("a", 0)
			p.used("a", 2, false)
			p.used("a", 0, false)
			p.killed("b", false)
		}
		p.has(1, 1)
		p.tick(1)
		p.has(0, 1)
	}
}

// ends are the ways in which the lease of "a" with the token 1 goes, in a table whose leases have two ticks.
func ends() map[string]func(p *pair) {
	return map[string]func(p *pair){
		"Use":   func(p *pair) { p.t.Helper(); p.used("a", 1, true) },
		"Kill":  func(p *pair) { p.t.Helper(); p.killed("a", true) },
		"Tick":  func(p *pair) { p.t.Helper(); p.tick(2) },
		"Clear": func(p *pair) { p.t.Helper(); p.clear() },
	}
}

// P7.1, P7.2: the first token is 1, the next one goes on from it behind each way in which a lease goes, and the old token
// is good for nothing, whether the key has a lease again or not.
func TestNextToken(t *testing.T) {
	for name, end := range ends() {
		for _, limit := range []int{1, 2, 5} {
			p := newPair(t, limit, 2)
			p.granted("a", 1)
			end(p)
			if p.table.Len() != 0 || p.table.Granted() != 1 {
				t.Errorf("behind %s: %d leases, the last token %d", name, p.table.Len(), p.table.Granted())
			}
			p.used("a", 1, false)
			p.killed("a", false)
			p.granted("a", 2)
			p.used("a", 1, false)
			p.used("a", 2, true)
			p.granted("b", 3)
			p.used("b", 1, false)
			p.used("b", 2, false)
			p.used("a", 3, false)
			p.used("b", 3, true)
			p.has(0, 3)
		}
	}
}

// P7.1, P7.2: a lease that a key has anew has all its ticks, however the one ahead of it went.
func TestNewLeaseHasAllTicks(t *testing.T) {
	for name, end := range ends() {
		p := newPair(t, 2, 2)
		p.granted("a", 1)
		if name != "Tick" {
			p.tick(1)
		}
		end(p)
		p.granted("a", 2)
		p.tick(1)
		p.has(1, 2)
		p.tick(1)
		p.has(0, 2)
	}
}

// P7.1: Again goes on from any last that is from 0 to MaxNumber, and from 0 else.
func TestAgain(t *testing.T) {
	for _, one := range []struct{ last, from int64 }{
		{0, 0}, {1, 1}, {2, 2}, {41, 41}, {1<<31 - 1, 1<<31 - 1}, {1 << 31, 1 << 31}, {1<<32 - 1, 1<<32 - 1}, {1 << 32, 1 << 32},
		{api.MaxNumber - 1, 9007199254740991}, {api.MaxNumber, 9007199254740992}, {api.MaxNumber + 1, 0}, {api.MaxNumber + 2, 0},
		{2 * api.MaxNumber, 0}, {math.MaxInt64 - 1, 0}, {math.MaxInt64, 0},
		{-1, 0}, {-2, 0}, {-41, 0}, {-api.MaxNumber, 0}, {math.MinInt64 + 1, 0}, {math.MinInt64, 0},
	} {
		p := newPairAgain(t, 2, 2, one.last)
		p.has(0, one.from)
		p.used("a", one.last, false)
		p.used("a", 0, false)
		p.killed("a", false)
		p.granted("a", one.from+1)
		p.granted("a", 0)
		p.granted("b", one.from+2)
		p.granted("c", 0)
		p.has(2, one.from+2)
		p.used("b", one.from+1, false)
		p.used("b", one.from+3, false)
		p.used("b", one.from, false)
		p.used("b", one.from+2, true)
		p.clear()
		p.has(0, one.from+2)
		p.granted("c", one.from+3)
		p.tick(2)
		p.has(0, one.from+3)
		p.granted("c", one.from+4)
	}
}

// P7.1: a table made again from Granted goes on, and has none of the leases of the one ahead of it.
func TestAgainFromGranted(t *testing.T) {
	p := newPair(t, 3, 2)
	p.grant("a", "b", "a", "c", "d")
	q := newPairAgain(t, 3, 2, p.table.Granted())
	q.has(0, 3)
	q.used("a", 1, false)
	q.killed("b", false)
	q.granted("a", 4)
	q.granted("e", 5)
	p.has(3, 3)
	p.killed("a", true)
	p.granted("a", 4)
	q.has(2, 5)
	q.used("a", 4, true)
	p.used("a", 4, true)
}

// P7.1, P7.2: Use with the key's token, with others, with one of another key's lease, a second time, and of a key without
// a lease.
func TestUse(t *testing.T) {
	p := newPair(t, 4, 5)
	p.grant("a", "b", "", "c")
	wrong := []int64{0, -1, -2, 3, 4, 5, 6, 100, 2 + 1<<32, 2 + 1<<53, 2 - 1<<63, math.MaxInt64, math.MinInt64, ^int64(2)}
	for range 2 {
		for _, token := range wrong {
			p.used("b", token, false)
			p.has(4, 4)
		}
		p.used("b", 1, false)
		p.used("a", 2, false)
		p.used("", 2, false)
		p.used("d", 2, false)
		p.used("B", 2, false)
		p.used("bb", 2, false)
		p.used("d", 0, false)
		p.has(4, 4)
	}
	p.used("b", 2, true)
	p.has(3, 4)
	p.used("b", 2, false)
	for _, token := range wrong {
		p.used("b", token, false)
	}
	p.has(3, 4)
	p.used("", 3, true)
	p.used("", 3, false)
	p.used("a", 1, true)
	p.used("c", 4, true)
	p.has(0, 4)
}

// P7.1, P7.2: Kill of a key with a lease and of one without, and a Use behind it.
func TestKill(t *testing.T) {
	for i, key := range []string{"a", "b", "", "c"} {
		p := newPair(t, 4, 2)
		p.killed(key, false)
		p.has(0, 0)
		p.grant("a", "b", "", "c")
		p.killed("d", false)
		p.killed("A", false)
		p.killed("\x00", false)
		p.has(4, 4)
		p.killed(key, true)
		p.has(3, 4)
		p.used(key, int64(i+1), false)
		p.used(key, 0, false)
		p.killed(key, false)
		p.has(3, 4)
		p.granted(key, 5)
		p.used(key, int64(i+1), false)
		p.killed(key, true)
		p.used(key, 5, false)
		p.useAll()
	}
}

// P7.1, P7.3: Tick with no lease, and with several of which some have one tick left and some have more.
func TestTick(t *testing.T) {
	p := newPair(t, 10, 3)
	p.tick(5)
	p.has(0, 0)
	p.grant("a", "b")
	p.tick(1)
	p.has(2, 2)
	p.grant("c", "d", "e")
	p.tick(1)
	p.has(5, 5)
	p.grant("f")
	p.used("d", 4, true)
	p.has(5, 6)
	p.tick(1)
	p.has(3, 6)
	p.used("a", 1, false)
	p.killed("b", false)
	p.killed("d", false)
	p.granted("a", 7)
	p.granted("c", 0)
	p.granted("f", 0)
	p.tick(1)
	p.has(2, 7)
	p.used("c", 3, false)
	p.killed("e", false)
	p.tick(1)
	p.has(1, 7)
	p.used("f", 6, false)
	p.used("a", 7, true)
	p.has(0, 7)
	p.tick(3)
	p.has(0, 7)
}

// P7.1, P7.3: leases that were granted at each of several ticks go at the same distance, each on its own.
func TestTickOneBehindTheOther(t *testing.T) {
	for ticks := 1; ticks <= 6; ticks++ {
		p := newPair(t, 100, ticks)
		for i := 1; i <= 20; i++ {
			p.granted(fmt.Sprint(i), int64(i))
			p.has(min(i, ticks), int64(i))
			p.tick(1)
			p.has(min(i, ticks-1), int64(i))
		}
		p.tick(ticks - 1)
		p.has(0, 20)
	}
	all := newPair(t, 200, 2)
	for i := 1; i <= 200; i++ {
		all.granted(fmt.Sprint(i), int64(i))
		if i == 100 {
			all.tick(1)
		}
	}
	all.tick(1)
	all.has(100, 200)
	for i := 1; i <= 200; i++ {
		all.used(fmt.Sprint(i), int64(i), i > 100)
	}
}

// P7.1, P7.3: a full table has a place again as soon as a tick has taken a lease.
func TestTickMakesPlace(t *testing.T) {
	p := newPair(t, 2, 2)
	p.granted("a", 1)
	p.tick(1)
	p.granted("b", 2)
	p.granted("c", 0)
	p.tick(1)
	p.granted("c", 3)
	p.granted("a", 0)
	p.tick(1)
	p.granted("a", 4)
	p.granted("d", 0)
	p.has(2, 4)
}

// P7.1, P7.2: behind Clear no lease is there, all places are free, and tokens go on.
func TestClear(t *testing.T) {
	for n := 0; n <= 4; n++ {
		for _, ticked := range []int{0, 1} {
			p := newPairAgain(t, 4, 2, 10)
			keys := []string{"a", "", "b", "c"}
			p.grant(keys[:n]...)
			p.tick(ticked)
			p.clear()
			p.has(0, int64(10+n))
			for i, k := range keys {
				p.used(k, int64(11+i), false)
				p.used(k, 0, false)
				p.killed(k, false)
			}
			p.clear()
			for i, k := range keys {
				p.granted(k, int64(11+n+i))
			}
			p.granted("d", 0)
			for i, k := range keys {
				if n > 0 {
					p.used(k, int64(11+i), false)
				}
			}
			p.tick(1)
			p.has(4, int64(14+n))
			p.useAll()
		}
	}
}

// P7.1: Granted ahead of the first Grant, behind Grants that are answered and refused, and behind all other calls.
func TestGranted(t *testing.T) {
	for _, last := range []int64{0, 7, api.MaxNumber} {
		p := newPairAgain(t, 2, 2, last)
		for range 3 {
			p.has(0, last)
		}
		p.use("a", last)
		p.kill("a")
		p.clear()
		p.tick(3)
		p.has(0, last)
		p.granted("a", last+1)
		p.has(1, last+1)
		p.granted("a", 0)
		p.has(1, last+1)
		p.granted("b", last+2)
		p.granted("c", 0)
		p.has(2, last+2)
		p.used("a", last+1, true)
		p.has(1, last+2)
		p.killed("b", true)
		p.has(0, last+2)
		p.granted("c", last+3)
		p.tick(2)
		p.has(0, last+3)
		p.clear()
		p.has(0, last+3)
	}
}

// P7.1: a nil table.
func TestNil(t *testing.T) {
	var l *lease.Table
	for range 2 {
		for _, k := range []string{"", "a", "b"} {
			if n, ok := l.Grant(k); n != 0 || ok {
				t.Errorf("Grant is %d, %v", n, ok)
			}
			for _, token := range []int64{0, 1, -1, math.MaxInt64, math.MinInt64} {
				if l.Use(k, token) {
					t.Error("Use is true")
				}
			}
			if l.Kill(k) {
				t.Error("Kill is true")
			}
		}
		l.Tick()
		if l.Len() != 0 || l.Granted() != 0 {
			t.Errorf("%d leases, the last token %d", l.Len(), l.Granted())
		}
		l.Clear()
	}
}

// P7.1: a key is any text, the empty one too, and each byte of it counts.
func TestKeys(t *testing.T) {
	keys := []string{"", "\x00", "\x00\x00", "a", "A", "a\x00", "aa", "é", "e\u0301", "\xc3", "\xff", "\xff\xff", "\ufffd",
		strings.Repeat("x", api.MaxKey), strings.Repeat("x", api.MaxKey+1), strings.Repeat("x", 5000), strings.Repeat("x", 4999) + "y"}
	p := newPair(t, len(keys)+1, 3)
	for i, k := range keys {
		p.killed(k, false)
		p.used(k, 0, false)
		p.granted(k, int64(i+1))
	}
	p.has(len(keys), int64(len(keys)))
	for i, k := range keys {
		p.granted(k, 0)
		p.used(k, int64(len(keys)-i), 2*i+1 == len(keys))
	}
	p.useAll()
}

// P7.1: a key's bytes may be used anew behind the call.
func TestKeyIsTheCallers(t *testing.T) {
	p := newPair(t, 2, 2)
	b := []byte("a")
	p.granted(string(b), 1)
	b[0] = 'b'
	p.granted(string(b), 2)
	b[0] = 'c'
	p.used("a", 1, true)
	p.used("b", 2, true)
}

// P7.1: two tables have nothing of each other.
func TestTwoTables(t *testing.T) {
	p, q := newPair(t, 2, 2), newPair(t, 3, 3)
	if p.table == q.table || lease.New(1, 1) == lease.New(1, 1) || lease.Again(1, 1, 0) == lease.Again(1, 1, 0) {
		t.Error("the same table is answered twice")
	}
	p.granted("a", 1)
	q.granted("b", 1)
	p.granted("b", 2)
	q.granted("a", 2)
	p.granted("c", 0)
	q.granted("c", 3)
	p.tick(2)
	q.has(3, 3)
	p.granted("a", 3)
	q.clear()
	p.has(1, 3)
	q.used("a", 3, false)
	p.used("a", 3, true)
}

// everyCall is each call with a few keys and tokens.
func everyCall() []call {
	calls := []call{{kind: "tick"}, {kind: "clear"}}
	for _, k := range []string{"", "a", "b"} {
		calls = append(calls, call{kind: "grant", key: k}, call{kind: "kill", key: k})
		for token := range int64(4) {
			if k != "" || token == 1 {
				calls = append(calls, call{"use", k, token})
			}
		}
	}
	return calls
}

// P7.1, P7.2, P7.3: each run of four calls in small tables, and behind it what is left goes by Use, or by Tick.
func TestEachRunOfFewCalls(t *testing.T) {
	calls := everyCall()
	for limit := 1; limit <= 2; limit++ {
		for ticks := 1; ticks <= 3; ticks++ {
			for n := range len(calls) * len(calls) * len(calls) * len(calls) {
				p := newPair(t, limit, ticks)
				for rest := n; len(p.calls) < 4; rest /= len(calls) {
					p.do(calls[rest%len(calls)])
				}
				if n%2 == 0 {
					p.useAll()
				} else {
					p.tickAll()
				}
			}
		}
	}
}

// byChance is a call with a token that is mostly the one of the key's last lease, now and then another one.
func byChance(r *rand.Rand, m *model, keys int) call {
	key := fmt.Sprintf("k%d", r.Intn(keys))
	switch d := r.Intn(100); {
	case d < 40:
		return call{kind: "grant", key: key}
	case d < 65:
		token := m.last - int64(r.Intn(12)) + 1
		if i := m.find(key); i >= 0 && r.Intn(4) > 0 {
			token = m.grants[i].token
		}
		return call{"use", key, token}
	case d < 80:
		return call{kind: "kill", key: key}
	case d < 99:
		return call{kind: "tick"}
	}
	return call{kind: "clear"}
}

// P7.1, P7.2, P7.3: calls by chance, in tables of several limits and ticks.
func TestCallsByChance(t *testing.T) {
	r := rand.New(rand.NewSource(7))
	for _, limit := range []int{1, 2, 5, api.MaxLeases, math.MaxInt} {
		for _, ticks := range []int{1, 2, api.LeaseTicks, 50} {
			for _, keys := range []int{2, 8, 60} {
				p := newPairAgain(t, limit, ticks, r.Int63n(1<<40))
				for range 1500 {
					p.do(byChance(r, p.model, keys))
				}
				p.useAll()
			}
		}
	}
}

// holder is what somebody who was granted a token knows of it.
type holder struct {
	key   string
	ticks int
	used  bool
	ended bool
}

// P7.2, P7.3: without the model: no token comes twice, each rises, none is used twice nor behind a Kill of its key, a
// Clear or its ticks, and each that had none of these is used; the leases are never more than the limit.
func TestHolders(t *testing.T) {
	r := rand.New(rand.NewSource(77))
	for _, limit := range []int{1, 3, 8} {
		for _, ticks := range []int{1, 3, 6} {
			l, last := lease.New(limit, ticks), int64(0)
			held := map[int64]*holder{}
			for range 4000 {
				key := fmt.Sprintf("k%d", r.Intn(10))
				switch d := r.Intn(100); {
				case d < 45:
					token, ok := l.Grant(key)
					if ok && (token <= last || held[token] != nil) || !ok && token != 0 {
						t.Fatalf("Grant is %d, %v behind %d", token, ok, last)
					}
					if ok {
						held[token], last = &holder{key: key}, token
					}
				case d < 75 && last > 0:
					token := max(last-int64(r.Intn(20)), 1)
					h := held[token]
					good := !h.used && !h.ended && h.ticks < ticks
					if ok := l.Use(h.key, token); ok != good {
						t.Fatalf("limit %d, ticks %d: Use of %d, %+v, is %v", limit, ticks, token, *h, ok)
					}
					h.used = h.used || good
				case d < 85:
					l.Kill(key)
					for _, h := range held {
						h.ended = h.ended || h.key == key
					}
				case d < 87:
					l.Clear()
					for _, h := range held {
						h.ended = true
					}
				case d < 99:
					l.Tick()
					for _, h := range held {
						h.ticks++
					}
				default:
					for range ticks {
						l.Tick()
					}
					if l.Len() != 0 {
						t.Fatalf("%d leases are left behind %d ticks", l.Len(), ticks)
					}
					for _, h := range held {
						h.ended = true
					}
				}
				if l.Len() < 0 || l.Len() > limit || l.Granted() != last {
					t.Fatalf("%d leases of %d, the last token %d, not %d", l.Len(), limit, l.Granted(), last)
				}
			}
		}
	}
}
