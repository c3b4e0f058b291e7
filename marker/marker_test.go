package marker_test

import (
	"fmt"
	"math"
	"math/rand"
	"slices"
	"strings"
	"testing"

	"meridian/api"
	"meridian/marker"
)

// The exact signatures: another one would not build.
var (
	_ func(int) *marker.Table                         = marker.New
	_ func(*marker.Table, string, int, int) api.Errno = (*marker.Table).Set
	_ func(*marker.Table, string, int, int) bool      = (*marker.Table).Clear
	_ func(*marker.Table, string, int, int) int       = (*marker.Table).Upto
	_ func(*marker.Table, int, int) int               = (*marker.Table).Past
	_ func(*marker.Table, string) bool                = (*marker.Table).Has
	_ func(*marker.Table) int                         = (*marker.Table).Len
	_ func(*marker.Table) []marker.Marker             = (*marker.Table).All
	_ func(*marker.Table)                             = (*marker.Table).Drop
	_ struct {
		Key              string
		Session, Request int
	} = marker.Marker{}
)

// P8.1: the chapter's example.
func TestExample(t *testing.T) {
	l := marker.New(2)
	if e := l.Set("a", 1, 5); e != api.OK {
		t.Errorf("Set is %d", e)
	}
	if e := l.Set("a", 1, 7); e != api.OK {
		t.Errorf("Set is %d", e)
	}
	if e := l.Set("b", 1, 8); e != api.ErrBusy {
		t.Errorf("Set of one more is %d", e)
	}
	if l.Clear("a", 1, 6) {
		t.Error("Clear of another request is true")
	}
	if n := l.Upto("a", 1, 6); n != 1 {
		t.Errorf("Upto is %d", n)
	}
	if !l.Has("a") {
		t.Error("Has is false")
	}
	if !l.Clear("a", 1, 7) {
		t.Error("Clear is false")
	}
	if l.Has("a") || l.Len() != 0 {
		t.Errorf("%d markers are left", l.Len())
	}
}

// P8.1, P8.3: a limit below 1 is none.
func TestNoLimit(t *testing.T) {
	for _, limit := range []int{0, -1, -2, -api.MaxMarkers, math.MinInt32, math.MinInt + 1, math.MinInt} {
		p := newPair(t, limit)
		for range 2 {
			p.set("a", 1, 1, api.ErrBusy)
			p.set("", 0, 0, api.ErrBusy)
			p.set("a", 1, 1, api.ErrBusy)
			p.clear("a", 1, 1, false)
			p.upto("a", 1, 1, 0)
			p.past(1, 1, 0)
			p.has("a", false)
			p.has("", false)
			p.drop()
			p.is()
		}
	}
}

// P8.1, P8.3: a limit of 1 and above is just so many markers.
func TestLimit(t *testing.T) {
	for _, limit := range []int{1, 2, 3, api.MaxMarkers - 1, api.MaxMarkers, api.MaxMarkers + 1, 100} {
		p := newPair(t, limit)
		for i := range limit {
			p.set(fmt.Sprint(i), 1, i, api.OK)
			if p.table.Len() != i+1 {
				p.fail("%d markers", p.table.Len())
			}
		}
		p.set("one more", 1, 1, api.ErrBusy)
		p.set("0", 1, 0, api.OK)
		p.set("0", 1, 1, api.ErrBusy)
		p.set("0", 2, 0, api.ErrBusy)
		p.has("one more", false)
		p.clear("0", 1, 0, true)
		p.set("one more", 1, 1, api.OK)
		p.set("0", 1, 0, api.ErrBusy)
		p.drop()
		p.is()
		p.set("0", 1, 0, api.OK)
	}
	for _, limit := range []int{1 << 31, 1 << 32, math.MaxInt - 1, math.MaxInt} {
		p := newPair(t, limit)
		for i := range 100 {
			p.set(fmt.Sprint(i%7), i%5, i, api.OK)
		}
		p.past(3, 100, 20)
	}
}

// P8.1: each byte of a key counts, also where it has none.
func TestKeys(t *testing.T) {
	keys := []string{"", "\x00", "\x00\x00", "A", "a", "a\x00", "a\x00b", "aa", "e\u0301", strings.Repeat("x", api.MaxKey),
		strings.Repeat("x", api.MaxKey+1), strings.Repeat("x", 4999) + "w", strings.Repeat("x", 5000), "\xc3", "é", "\ufffd", "\xff", "\xff\xff"}
	p := newPair(t, len(keys))
	var want []marker.Marker
	for i := range keys {
		k := keys[(i*7+3)%len(keys)] // 7 has no divisor in common with the number of keys, so each comes once
		p.has(k, false)
		p.clear(k, 1, 1, false)
		p.set(k, 1, 1, api.OK)
		p.has(k, true)
	}
	for _, k := range keys {
		want = append(want, mk(k, 1, 1))
	}
	p.is(want...)
	for i, k := range keys {
		switch i % 3 {
		case 0:
			p.clear(k, 1, 1, true)
		case 1:
			p.upto(k, 1, 1, 1)
		}
		p.has(k, i%3 == 2)
	}
	p.past(1, 1, len(keys)/3)
	p.is()
}

// P8.1: a key's bytes may be used anew behind the call.
func TestKeyIsTheCallers(t *testing.T) {
	p := newPair(t, 2)
	b := []byte("a")
	p.set(string(b), 1, 1, api.OK)
	b[0] = 'b'
	p.set(string(b), 1, 1, api.OK)
	b[0] = 'c'
	p.is(mk("a", 1, 1), mk("b", 1, 1))
}

// numbers are rising: those that go wrong where a number is cut to fewer bits, or held against another by taking it off.
func numbers() []int {
	return []int{math.MinInt, math.MinInt + 1, -1<<53 - 1, -1 << 32, math.MinInt32, -2, -1, 0, 1, 2, 255, 256, math.MaxInt32,
		1 << 31, 1 << 32, 1<<32 + 1, api.MaxNumber, api.MaxNumber + 1, math.MaxInt - 1, math.MaxInt}
}

// P8.1: each number is as good as another as a session and as a request.
func TestNumbers(t *testing.T) {
	ns := numbers()
	for _, n := range ns {
		p := newPair(t, 4)
		p.set("a", n, n, api.OK)
		p.set("a", n, n, api.OK)
		p.set("a", n, 7, api.OK)
		p.set("a", 7, n, api.OK)
		p.clear("a", n, n, true)
		p.clear("a", n, n, false)
		p.clear("a", 7, n, true)
		p.clear("a", n, 7, true)
		p.is()
	}
	for _, place := range []string{"session", "request"} {
		p := newPair(t, len(ns))
		var want []marker.Marker
		for _, n := range ns {
			m := mk("a", n, 0)
			if place == "request" {
				m = mk("a", 0, n)
			}
			want = append(want, m)
		}
		for i := range want {
			p.setAll(want[(i*7)%len(want)])
		}
		p.is(want...)
	}
}

// P8.1: Upto and Past take just what isn't above the request, at each pair of numbers.
func TestNumbersUpto(t *testing.T) {
	ns := numbers()
	for i, n := range ns {
		for _, kind := range []string{"Upto", "Past"} {
			p := newPair(t, 2*len(ns))
			for _, m := range ns {
				p.setAll(mk("a", n, m), mk("a", n^1, m))
			}
			if a := p.do(call{kind, mk("a", n, n)}); a.n != i+1 {
				p.fail("is %d, not %d", a.n, i+1)
			}
			for j, m := range ns {
				p.clear("a", n^1, m, true)
				p.clear("a", n, m, j > i)
			}
			p.is()
		}
	}
}

// P8.1: Set of a new marker, of one that is there, into a table with one marker fewer than its limit, and into a full one.
func TestSet(t *testing.T) {
	p := newPair(t, 3)
	p.set("b", 1, 1, api.OK)
	p.is(mk("b", 1, 1))
	p.set("b", 1, 1, api.OK)
	p.is(mk("b", 1, 1))
	p.set("b", 1, 2, api.OK)
	p.set("b", 1, 1, api.OK)
	p.set("b", 1, 2, api.OK)
	p.is(mk("b", 1, 1), mk("b", 1, 2))
	p.set("a", 2, 1, api.OK)
	full := []marker.Marker{mk("a", 2, 1), mk("b", 1, 1), mk("b", 1, 2)}
	p.is(full...)
	p.setAll(full...)
	p.is(full...)
	p.set("a", 1, 1, api.ErrBusy)
	p.set("a", 2, 2, api.ErrBusy)
	p.set("b", 2, 1, api.ErrBusy)
	p.set("", 2, 1, api.ErrBusy)
	p.is(full...)
	p.setAll(full...)
	p.clear("b", 1, 1, true)
	p.set("b", 1, 2, api.OK)
	p.set("c", 9, 9, api.OK)
	p.set("b", 1, 1, api.ErrBusy)
	p.is(mk("a", 2, 1), mk("b", 1, 2), mk("c", 9, 9))
}

// P8.1: a marker that was set twice goes at once.
func TestSetTwiceGoesOnce(t *testing.T) {
	for kind, want := range map[string]answer{"Clear": {ok: true}, "Upto": {n: 1}, "Past": {n: 1}, "Drop": {}} {
		for _, limit := range []int{1, 2} {
			p := newPair(t, limit)
			p.setAll(mk("a", 1, 1), mk("a", 1, 1), mk("a", 1, 1))
			c := call{kind, mk("a", 1, 1)}
			if a := p.do(c); a != want {
				p.fail("is %v, not %v", a, want)
			}
			p.is()
			p.has("a", false)
			if a := p.do(c); a != (answer{}) {
				p.fail("is %v a second time", a)
			}
		}
	}
}

// P8.1: markers of which one of the three alone is another are several.
func TestOneOfThreeIsAnother(t *testing.T) {
	p := newPair(t, 8)
	for n := range 8 {
		p.set(string(rune('a'+n&1)), n>>1&1, n>>2&1, api.OK)
	}
	p.is(mk("a", 0, 0), mk("a", 0, 1), mk("a", 1, 0), mk("a", 1, 1), mk("b", 0, 0), mk("b", 0, 1), mk("b", 1, 0), mk("b", 1, 1))
	p = newPair(t, 3)
	p.setAll(mk("a1", 1, 1), mk("a", 11, 1), mk("a", 1, 11))
	p.clear("a", 1, 1, false)
	p.is(mk("a", 1, 11), mk("a", 11, 1), mk("a1", 1, 1))
}

// P8.1, P8.2: Clear of a marker that is there, of one whose key, session or request alone is another, and a second time.
func TestClear(t *testing.T) {
	p := newPair(t, 5)
	p.clear("a", 1, 5, false)
	all := []marker.Marker{mk("a", 1, 4), mk("a", 1, 5), mk("a", 2, 5), mk("b", 1, 5)}
	p.setAll(all...)
	p.clear("c", 1, 5, false)
	p.clear("", 1, 5, false)
	p.clear("a", 3, 5, false)
	p.clear("a", 0, 5, false)
	p.clear("a", 1, 6, false)
	p.clear("a", 1, 3, false)
	p.clear("a", 5, 1, false)
	p.is(all...)
	p.clear("a", 1, 5, true)
	p.is(mk("a", 1, 4), mk("a", 2, 5), mk("b", 1, 5))
	p.clear("a", 1, 5, false)
	p.is(mk("a", 1, 4), mk("a", 2, 5), mk("b", 1, 5))
	p.set("a", 1, 5, api.OK)
	p.is(all...)
	for i, m := range all {
		p.clear(m.Key, m.Session, m.Request, true)
		p.clear(m.Key, m.Session, m.Request, false)
		p.is(all[i+1:]...)
	}
}

// P8.1, P8.2: Upto with a request below, at and above that of the markers, beside other sessions and other keys.
func TestUpto(t *testing.T) {
	of := []marker.Marker{mk("b", 2, 5), mk("b", 2, 7), mk("b", 2, 8)}
	beside := []marker.Marker{mk("a", 2, 5), mk("b", 1, 5), mk("b", 3, 5), mk("c", 2, 5)}
	for _, one := range []struct{ request, goes int }{
		{math.MinInt, 0}, {-5, 0}, {0, 0}, {4, 0}, {5, 1}, {6, 1}, {7, 2}, {8, 3}, {9, 3}, {math.MaxInt, 3},
	} {
		for _, limit := range []int{7, 8} {
			p := newPair(t, limit)
			p.upto("b", 2, one.request, 0)
			p.setAll(of...).setAll(beside...)
			for _, none := range []marker.Marker{mk("", 2, 9), mk("d", 2, 9), mk("a", 1, 9), mk("b", 0, 9), mk("b", 4, 9), mk("b", -2, 9)} {
				p.upto(none.Key, none.Session, none.Request, 0)
			}
			p.upto("b", 2, one.request, one.goes)
			want := append(slices.Clone(beside[:2]), of[one.goes:]...)
			p.is(append(want, beside[2:]...)...)
			p.upto("b", 2, one.request, 0)
			p.upto("b", 2, 9, 3-one.goes)
			p.is(beside...)
		}
	}
}

// P8.1, P8.2: Past likewise, over several keys.
func TestPast(t *testing.T) {
	of := []marker.Marker{mk("a", 2, 7), mk("b", 2, 5), mk("b", 2, 8), mk("c", 2, 6), mk("", 2, 6)}
	beside := []marker.Marker{mk("a", 3, 5), mk("b", 1, 5), mk("d", 1, 6)}
	for _, one := range []struct{ request, goes int }{
		{math.MinInt, 0}, {-5, 0}, {0, 0}, {4, 0}, {5, 1}, {6, 3}, {7, 4}, {8, 5}, {9, 5}, {math.MaxInt, 5},
	} {
		for _, limit := range []int{8, 9} {
			p := newPair(t, limit)
			p.past(2, one.request, 0)
			p.setAll(of...).setAll(beside...)
			for _, none := range []int{0, 4, -2, 2 + 1<<32, math.MaxInt, math.MinInt} {
				p.past(none, 9, 0)
			}
			p.past(2, one.request, one.goes)
			for _, m := range of {
				if stays := m.Request > one.request; slices.Contains(p.table.All(), m) != stays {
					p.fail("%v stays: not %v", m, stays)
				}
			}
			p.past(2, one.request, 0)
			p.past(2, 9, 5-one.goes)
			p.is(beside...)
			p.past(1, 9, 2)
			p.past(3, 9, 1)
			p.is()
		}
	}
}

// P8.1: a full table has places again behind Clear, Upto, Past and Drop, as many as went.
func TestPlacesAgain(t *testing.T) {
	markers := []marker.Marker{mk("a", 1, 1), mk("a", 1, 2), mk("b", 1, 2)}
	for _, one := range []struct {
		call
		goes int
	}{
		{call{"Clear", mk("a", 1, 1)}, 1}, {call{"Clear", mk("b", 1, 1)}, 0}, {call{"Upto", mk("a", 1, 1)}, 1},
		{call{"Upto", mk("a", 1, 2)}, 2}, {call{"Upto", mk("c", 1, 2)}, 0}, {call{"Past", mk("", 1, 0)}, 0},
		{call{"Past", mk("", 1, 1)}, 1}, {call{"Past", mk("", 1, 2)}, 3}, {call{"Past", mk("", 2, 2)}, 0}, {call{kind: "Drop"}, 3},
	} {
		p := newPair(t, 3).setAll(markers...)
		p.set("new", 0, 0, api.ErrBusy)
		p.do(one.call)
		for i := range one.goes {
			p.set("new", 0, i, api.OK)
		}
		p.set("new", 9, 9, api.ErrBusy)
	}
}

// P8.1, P8.2: a key with several markers has one till the last of them goes.
func TestHas(t *testing.T) {
	p := newPair(t, 10)
	p.has("a", false)
	p.setAll(mk("a", 1, 1), mk("a", 1, 2), mk("a", 2, 1), mk("a", 3, 3), mk("a", 3, 4), mk("b", 1, 1), mk("b", 3, 9))
	p.has("a", true)
	p.has("b", true)
	p.has("", false)
	p.has("A", false)
	p.has("ab", false)
	p.clear("a", 1, 1, true)
	p.has("a", true)
	p.clear("a", 1, 1, false)
	p.has("a", true)
	p.upto("a", 1, 9, 1)
	p.has("a", true)
	p.past(2, 1, 1)
	p.has("a", true)
	p.past(3, 3, 1)
	p.has("a", true)
	p.upto("a", 3, 4, 1)
	p.has("a", false)
	p.has("b", true)
	p.past(1, 1, 1)
	p.has("b", true)
	p.drop()
	p.has("b", false)
}

// permutations are all orders of the numbers below n.
func permutations(n int) [][]int {
	if n == 0 {
		return [][]int{{}}
	}
	var out [][]int
	for _, p := range permutations(n - 1) {
		for i := range n {
			out = append(out, slices.Insert(slices.Clone(p), i, n-1))
		}
	}
	return out
}

// P8.1: All tells by the keys rising, then by the session, then by the request, in whatever order the markers were set.
func TestAll(t *testing.T) {
	for _, want := range [][]marker.Marker{
		{},
		{mk("", 0, 0)},
		{mk("a", 9, 9), mk("b", 1, 1)},
		{mk("a", 2, 8), mk("a", 9, 1)},
		{mk("a", 2, 1), mk("a", 2, 3)},
		{mk("", 5, 5), mk("a", -1, 7), mk("a", 2, -4), mk("a", 2, 10), mk("aa", 1, 2), mk("b", 0, 0)},
		{mk("\x00", 9, 9), mk("a", 9, 10), mk("a", 10, 9), mk("a\x00", 1, 1), mk("a\xff", 0, 0), mk("b", math.MinInt, math.MaxInt)},
		{mk("k", math.MinInt, 0), mk("k", -1, 0), mk("k", 0, math.MinInt), mk("k", 0, -1), mk("k", 0, math.MaxInt), mk("k", math.MaxInt, 0)},
	} {
		for _, order := range permutations(len(want)) {
			p := newPair(t, len(want))
			for _, i := range order {
				p.setAll(want[i])
			}
			p.is(want...)
			p.is(want...)
			for _, i := range order[:len(order)/2] {
				p.clear(want[i].Key, want[i].Session, want[i].Request, true)
			}
			for _, i := range order[:len(order)/2] {
				p.setAll(want[i])
			}
			p.is(want...)
		}
	}
}

// P8.1: the slice of All is the caller's, spare room too.
func TestAllIsTheCallers(t *testing.T) {
	for n := range 6 {
		p := newPair(t, 6)
		var want []marker.Marker
		for i := range n {
			p.set("k", 1, i, api.OK)
			want = append(want, mk("k", 1, i))
		}
		one, other := p.table.All(), p.table.All()
		for i := range one[:cap(one)] {
			one[:cap(one)][i] = mk("spoilt", 9, 9)
		}
		_ = append(one, mk("more", 9, 9))
		if !slices.Equal(other, want) {
			t.Errorf("another answer is %v, not %v", other, want)
		}
		p.is(want...)
		p.same()
		p.has("spoilt", false)
		p.has("more", false)
		for _, m := range want {
			p.clear(m.Key, m.Session, m.Request, true)
		}
		p.set("later", 1, 1, api.OK)
		if !slices.Equal(other, want) {
			t.Errorf("an answer is %v behind later calls, not %v", other, want)
		}
	}
}

// P8.1: the calls that only ask change nothing, and answer the same as often as they are made.
func TestAskingChangesNothing(t *testing.T) {
	p := newPair(t, 50)
	for i := range 40 {
		p.set(fmt.Sprint(i%9), i%4, i, api.OK)
	}
	for range 20 {
		p.same()
	}
	p.past(0, 100, 10)
	for range 20 {
		p.same()
	}
}

// P8.1: behind Drop nothing is there, and all places are free.
func TestDrop(t *testing.T) {
	markers := []marker.Marker{mk("", 0, 0), mk("a", 1, 1), mk("a", 1, 2), mk("b", 2, 1)}
	for n := range len(markers) + 1 {
		p := newPair(t, len(markers)).setAll(markers[:n]...)
		p.drop()
		p.is()
		for _, m := range markers {
			p.has(m.Key, false)
			p.clear(m.Key, m.Session, m.Request, false)
			p.upto(m.Key, m.Session, m.Request, 0)
			p.past(m.Session, m.Request, 0)
		}
		p.drop()
		p.setAll(markers...)
		p.is(markers...)
		p.set("c", 1, 1, api.ErrBusy)
		p.drop()
		p.set("c", 1, 1, api.OK)
		p.is(mk("c", 1, 1))
	}
}

// P8.1: a nil table is full, and has none.
func TestNil(t *testing.T) {
	var l *marker.Table
	for range 2 {
		for _, k := range []string{"", "a"} {
			for _, n := range numbers() {
				if e := l.Set(k, n, n); e != api.ErrBusy {
					t.Errorf("Set is %d", e)
				}
				if l.Clear(k, n, n) {
					t.Error("Clear is true")
				}
				if up, past := l.Upto(k, n, n), l.Past(n, n); up != 0 || past != 0 {
					t.Errorf("Upto is %d, Past %d", up, past)
				}
			}
			if l.Has(k) {
				t.Error("Has is true")
			}
		}
		if l.Len() != 0 || len(l.All()) != 0 {
			t.Errorf("%d markers: %v", l.Len(), l.All())
		}
		l.Drop()
	}
}

// P8.1: two tables have nothing of each other.
func TestTwoTables(t *testing.T) {
	p, q := newPair(t, 1), newPair(t, 2)
	if p.table == q.table || marker.New(1) == marker.New(1) {
		t.Error("the same table is answered twice")
	}
	p.set("a", 1, 1, api.OK)
	q.same()
	q.setAll(mk("a", 1, 1), mk("b", 1, 1))
	p.set("b", 1, 1, api.ErrBusy)
	p.past(1, 1, 1)
	q.is(mk("a", 1, 1), mk("b", 1, 1))
	q.drop()
	p.set("c", 1, 1, api.OK)
	q.is()
}

// everyCall is each call with a few keys, sessions and requests.
func everyCall() []call {
	calls := []call{{kind: "Drop"}}
	for _, session := range []int{1, 2} {
		for _, request := range []int{1, 2} {
			calls = append(calls, call{"Past", mk("", session, request)})
			for _, key := range []string{"", "a"} {
				m := mk(key, session, request)
				calls = append(calls, call{"Set", m}, call{"Clear", m}, call{"Upto", m})
			}
		}
	}
	return calls
}

// P8.1, P8.2, P8.3: each run of three calls behind each beginning of a list of Sets, in small tables.
func TestEachRunOfFewCalls(t *testing.T) {
	calls := everyCall()
	first := []marker.Marker{mk("a", 2, 2), mk("a", 2, 1), mk("", 2, 1)}
	for limit := 1; limit <= 4; limit++ {
		for ahead := range min(limit, len(first)) + 1 {
			for n := range len(calls) * len(calls) * len(calls) {
				p := newPair(t, limit)
				for _, m := range first[:ahead] {
					p.do(call{"Set", m})
				}
				for rest, i := n, 0; i < 3; rest, i = rest/len(calls), i+1 {
					p.do(calls[rest%len(calls)])
				}
			}
		}
	}
}

// byChance is a call, mostly a Set, of some keys and sessions, with requests that rise as time goes by.
func byChance(r *rand.Rand, now, keys, sessions int) call {
	m := mk(fmt.Sprintf("k%d", r.Intn(keys)), r.Intn(sessions)-1, now/8+r.Intn(6))
	switch d := r.Intn(100); {
	case d < 60:
		return call{"Set", m}
	case d < 80:
		return call{"Clear", m}
	case d < 92:
		return call{"Upto", mk(m.Key, m.Session, m.Request-3)}
	case d < 99:
		return call{"Past", mk("", m.Session, m.Request-5)}
	}
	return call{kind: "Drop"}
}

// P8.1, P8.2, P8.3: calls by chance, in tables of several limits.
func TestCallsByChance(t *testing.T) {
	r := rand.New(rand.NewSource(8))
	for _, limit := range []int{1, 2, 5, api.MaxMarkers, math.MaxInt} {
		for _, keys := range []int{1, 3, 20} {
			for _, sessions := range []int{1, 3, api.MaxSessions} {
				p := newPair(t, limit)
				for now := range 1000 {
					p.do(byChance(r, now, keys, sessions))
				}
			}
		}
	}
}

// P8.2, without the model: each marker stays till what ends it is called, and nothing else ends it.
func TestMarkedStays(t *testing.T) {
	ends := func(c call, m marker.Marker) bool {
		switch c.kind {
		case "Clear":
			return c.Marker == m
		case "Upto":
			return c.Key == m.Key && c.Session == m.Session && m.Request <= c.Request
		case "Past":
			return c.Session == m.Session && m.Request <= c.Request
		}
		return c.kind == "Drop"
	}
	others := []marker.Marker{mk("a", 1, 2), mk("a", 2, 1), mk("a", 2, 2), mk("b", 1, 2), mk("b", 2, 3)}
	for _, key := range []string{"a", "b", ""} {
		for session := range 4 {
			for request := range 5 {
				for _, kind := range []string{"Set", "Clear", "Upto", "Past", "Drop"} {
					c := call{kind, mk(key, session, request)}
					l := marker.New(len(others))
					for _, m := range others {
						l.Set(m.Key, m.Session, m.Request)
					}
					c.of(l)
					marked := map[string]bool{}
					for _, m := range others {
						stays := !ends(c, m)
						marked[m.Key] = marked[m.Key] || stays
						if slices.Contains(l.All(), m) != stays {
							t.Errorf("behind %v: is %v there? Not %v", c, m, stays)
						}
					}
					if l.Has("a") != marked["a"] || l.Has("b") != marked["b"] {
						t.Errorf("behind %v: Has is %v, %v, not %v", c, l.Has("a"), l.Has("b"), marked)
					}
				}
			}
		}
	}
}

// P8.2, without the model: a key is marked from its Set on through many other calls, and not behind its own end.
func TestOneMarkerAmongMany(t *testing.T) {
	r := rand.New(rand.NewSource(88))
	for _, end := range []call{{"Clear", mk("k0", 99, 50)}, {"Upto", mk("k0", 99, 50)}, {"Upto", mk("k0", 99, 51)},
		{"Past", mk("", 99, 50)}, {"Past", mk("", 99, 1000)}, {kind: "Drop"}} {
		l := marker.New(api.MaxMarkers)
		if e := l.Set("k0", 99, 50); e != api.OK {
			t.Fatalf("Set is %d", e)
		}
		harmless := []call{{"Clear", mk("k0", 99, 49)}, {"Clear", mk("k1", 99, 50)}, {"Upto", mk("k0", 99, 49)},
			{"Upto", mk("k1", 99, 60)}, {"Past", mk("", 99, 49)}, {"Past", mk("", 98, 60)}, {"Upto", mk("k0", 98, 60)}}
		for now := range 500 {
			c := byChance(r, now, 4, 5)
			if now%3 == 0 {
				c = harmless[r.Intn(len(harmless))]
			}
			if c.kind != "Drop" {
				c.of(l)
			}
			if !l.Has("k0") || !slices.Contains(l.All(), mk("k0", 99, 50)) {
				t.Fatalf("the marker is gone behind %v", c)
			}
		}
		end.of(l)
		if slices.Contains(l.All(), mk("k0", 99, 50)) {
			t.Errorf("the marker is there behind %v", end)
		}
	}
}

// P8.3, without the model: a Set that is refused changes nothing, and the markers are never more than the limit.
func TestNeverMoreThanTheLimit(t *testing.T) {
	r := rand.New(rand.NewSource(888))
	for limit := -1; limit <= 6; limit++ {
		l, refused := marker.New(limit), 0
		for now := range 3000 {
			c, had := byChance(r, now, 4, 3), l.All()
			a := c.of(l)
			if l.Len() > max(limit, 0) || l.Len() != len(l.All()) {
				t.Fatalf("%d markers, %v, of %d behind %v", l.Len(), l.All(), limit, c)
			}
			if a.err == api.OK {
				continue
			}
			refused++
			if a.err != api.ErrBusy || len(had) < limit || slices.Contains(had, c.Marker) {
				t.Fatalf("limit %d, %v: %v is %d", limit, had, c, a.err)
			}
			if !slices.Equal(l.All(), had) {
				t.Fatalf("limit %d: behind %v, refused, %v, not %v", limit, c, l.All(), had)
			}
			for _, k := range []string{"k0", "k1", "k2", "k3"} {
				if l.Has(k) != slices.ContainsFunc(had, func(m marker.Marker) bool { return m.Key == k }) {
					t.Fatalf("behind %v, refused, Has(%q) is %v", c, k, l.Has(k))
				}
			}
		}
		if refused == 0 {
			t.Errorf("limit %d: no Set was refused", limit)
		}
	}
}
