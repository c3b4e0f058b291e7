package holdoff_test

import (
	"fmt"
	"math"
	"math/rand"
	"slices"
	"strings"
	"testing"

	"meridian/api"
	"meridian/holdoff"
)

// The exact signatures: another one would not build.
var (
	_ func(int) *holdoff.Table               = holdoff.New
	_ func(*holdoff.Table, string, int)      = (*holdoff.Table).Note
	_ func(*holdoff.Table, string, int) bool = (*holdoff.Table).Allows
	_ func(*holdoff.Table, int) int          = (*holdoff.Table).Pass
	_ func(*holdoff.Table) int               = (*holdoff.Table).Len
	_ func(*holdoff.Table) int               = (*holdoff.Table).Floor
	_ func(*holdoff.Table) []string          = (*holdoff.Table).Keys
	_ func(*holdoff.Table)                   = (*holdoff.Table).Clear
)

// P9.1: the chapter's example.
func TestExample(t *testing.T) {
	h := holdoff.New(1)
	h.Note("a", 5)
	h.Note("b", 7)
	if h.Floor() != 7 {
		t.Errorf("the floor is %d", h.Floor())
	}
	if h.Allows("a", 5) {
		t.Error("Allows of a as of 5 is true")
	}
	if !h.Allows("a", 7) {
		t.Error("Allows of a as of 7 is false")
	}
	if n := h.Pass(6); n != 1 {
		t.Errorf("Pass(6) is %d", n)
	}
	if h.Allows("c", 6) {
		t.Error("Allows of c as of 6 is true")
	}
	if n := h.Pass(7); n != 0 {
		t.Errorf("Pass(7) is %d", n)
	}
	if !h.Allows("c", 0) {
		t.Error("Allows of c as of 0 is false")
	}
}

// P9.1, P9.2, P9.3: a limit below 1 is none; what is noted is held off by the floor.
func TestNoLimit(t *testing.T) {
	for _, limit := range []int{0, -1, -2, -api.MaxTombs, math.MinInt32, math.MinInt + 1, math.MinInt} {
		p := newPair(t, limit)
		for range 2 {
			p.is(0)
			p.note("a", 0).is(0)
			p.note("a", 3).is(3)
			p.note("", 5).is(5)
			p.note("a", 4).is(5)
			p.from("a", 5)
			p.from("other", 5)
			p.pass(4, 0)
			p.is(5)
			p.pass(5, 0)
			p.is(0)
			p.note("a", 1).is(1)
			p.clear()
		}
	}
}

// P9.1, P9.3: a limit of 1 and above is just so many tombstones.
func TestLimit(t *testing.T) {
	for _, limit := range []int{1, 2, 3, api.MaxTombs - 1, api.MaxTombs, api.MaxTombs + 1, 100} {
		p := newPair(t, limit)
		for i := range limit {
			p.note(fmt.Sprint(i), i+1)
			if p.table.Len() != i+1 || p.table.Floor() != 0 {
				p.fail("%d tombstones, floor %d", p.table.Len(), p.table.Floor())
			}
		}
		p.from("one more", 0)
		p.note("one more", 200)
		if p.table.Len() != limit || p.table.Floor() != 200 {
			p.fail("%d tombstones, floor %d", p.table.Len(), p.table.Floor())
		}
		p.from("one more", 200)
		p.from("0", 200)
		p.pass(limit, limit)
		p.is(200)
		p.pass(200, 0)
		p.is(0)
	}
	for _, limit := range []int{1 << 31, 1 << 32, math.MaxInt - 1, math.MaxInt} {
		p := newPair(t, limit)
		for i := range 60 {
			p.note(fmt.Sprint(i), i+1)
		}
		if p.table.Len() != 60 || p.table.Floor() != 0 {
			p.fail("%d tombstones, floor %d", p.table.Len(), p.table.Floor())
		}
		p.pass(20, 20)
	}
}

// P9.1: each byte of a key counts, also where it has none.
func TestKeys(t *testing.T) {
	keys := []string{"", "\x00", "\x00\x00", "A", "a", "a\x00", "a\x00b", "aa", "e\u0301", strings.Repeat("x", api.MaxKey),
		strings.Repeat("x", api.MaxKey+1), strings.Repeat("x", 4999) + "w", strings.Repeat("x", 5000), "\xc3", "é", "\ufffd", "\xff", "\xff\xff"}
	slices.Sort(keys)
	p := newPair(t, len(keys))
	for i := range keys {
		k := keys[(i*7+3)%len(keys)] // 7 has no divisor in common with the number of keys, so each comes once
		p.from(k, 0)
		p.note(k, i+1)
		p.from(k, i+1)
	}
	p.is(0, keys...)
	p.pass(len(keys)-1, len(keys)-1)
	p.is(0, keys[((len(keys)-1)*7+3)%len(keys)])
}

// P9.1: a key's bytes may be used anew behind the call.
func TestKeyIsTheCallers(t *testing.T) {
	p := newPair(t, 2)
	b := []byte("a")
	p.note(string(b), 1)
	b[0] = 'b'
	p.note(string(b), 2)
	b[0] = 'c'
	p.is(0, "a", "b")
	p.from("a", 1)
	p.from("b", 2)
	p.from("c", 0)
}

// indexes are rising, and from 1 on: those that go wrong where a number is cut to fewer bits.
func indexes() []int {
	return []int{1, 2, 255, 256, 257, api.MaxIndex, api.MaxIndex + 1, math.MaxInt32, 1 << 31, 1 << 32, 1<<32 + 1,
		api.MaxNumber, api.MaxNumber + 1, math.MaxInt - 1, math.MaxInt}
}

// notIndexes are the numbers below 1.
func notIndexes() []int {
	return []int{math.MinInt, math.MinInt + 1, -1<<53 - 1, -1 << 32, math.MinInt32, -256, -2, -1, 0}
}

// P9.1: Note with an index below 1 is nothing, of whatever key, in a table with room and in a full one.
func TestNoteBelowOne(t *testing.T) {
	for _, n := range notIndexes() {
		for limit := range 4 {
			p := newPair(t, limit)
			p.note("a", n).note("", n).is(0)
			p.from("a", 0)
			p.note("b", 5)
			floor, keys := p.table.Floor(), p.table.Keys()
			p.note("a", n).note("b", n).note("", n).is(floor, keys...)
			p.note("c", 7).note("d", 8)
			floor, keys = p.table.Floor(), p.table.Keys()
			p.note("a", n).note("b", n).note("c", n).is(floor, keys...)
		}
	}
}

// P9.1, P9.2: an index of 1, a great one, and those between, as a tombstone and as the floor.
func TestIndexes(t *testing.T) {
	for _, n := range indexes() {
		p := newPair(t, 1)
		p.note("a", n).is(0, "a")
		p.from("a", n)
		p.from("b", 0)
		p.note("b", n).is(n, "a")
		p.from("b", n)
		p.pass(n-1, 0)
		p.is(n, "a")
		p.pass(n, 1)
		p.is(0)
		p.from("a", 0)
		p.from("b", 0)
	}
}

// P9.1: at each two indexes the greater one counts, in whatever order they come.
func TestTwoIndexes(t *testing.T) {
	for _, one := range indexes() {
		for _, other := range indexes() {
			more := max(one, other)
			p := newPair(t, 1).note("a", one).note("a", other)
			p.is(0, "a")
			p.from("a", more)
			p.note("b", one).note("c", other).is(more, "a")
			p.from("d", more)
			p = newPair(t, 1).note("a", one).note("b", other)
			p.is(other, "a")
			p.from("a", more)
			p.from("b", other)
		}
	}
}

// P9.1, P9.2: Note of a key that has a tombstone, with a lower index, the same and a greater one, in a table with room and in a full one.
func TestNoteAgain(t *testing.T) {
	for _, limit := range []int{3, 2} {
		p := newPair(t, limit).note("a", 5).note("b", 9)
		p.note("a", 4).is(0, "a", "b")
		p.from("a", 5)
		p.note("a", 1)
		p.from("a", 5)
		p.note("a", 5).is(0, "a", "b")
		p.from("a", 5)
		p.note("a", 6).is(0, "a", "b")
		p.from("a", 6)
		p.note("a", 20).is(0, "a", "b")
		p.from("a", 20)
		p.from("b", 9)
		p.from("c", 0)
		p.pass(19, 1)
		p.is(0, "a")
		p.pass(20, 1)
		p.is(0)
	}
}

// P9.1: a key that has a tombstone doesn't move the floor, wherever that stands.
func TestNoteAgainBesideAFloor(t *testing.T) {
	for _, one := range []struct{ index, went, from int }{{1, 1, 0}, {6, 1, 0}, {7, 1, 0}, {8, 0, 8}, {100, 0, 100}} {
		p := newPair(t, 1).note("a", 5).note("b", 7)
		p.note("a", one.index).is(7, "a")
		p.from("a", max(7, one.index))
		p.from("b", 7)
		p.pass(7, one.went)
		p.from("a", one.from)
		p.from("b", 0)
	}
}

// P9.1, P9.2, P9.3: Note of a new key into a table with one tombstone fewer than its limit, and into a full one, below, at and above the floor.
func TestNoteNew(t *testing.T) {
	for _, limit := range []int{1, 2, 5} {
		p := newPair(t, limit)
		var full []string
		for i := range limit - 1 {
			full = append(full, fmt.Sprint(i))
			p.note(full[i], 50)
		}
		p.is(0, full...)
		full = append(full, "last")
		p.note("last", 3).is(0, full...)
		p.from("last", 3)
		p.note("x", 10).is(10, full...)
		p.note("y", 9).is(10, full...)
		p.note("y", 10).is(10, full...)
		p.note("y", 1).is(10, full...)
		p.note("x", 11).is(11, full...)
		p.note("", 12).is(12, full...)
		p.note("z", math.MaxInt).is(math.MaxInt, full...)
		p.note("z", 12).is(math.MaxInt, full...)
	}
}

// P9.1, P9.2: Allows of a key with a tombstone and of one without, where the floor is the greater one and where the tombstone is.
func TestAllows(t *testing.T) {
	for _, one := range []struct{ tomb, floor int }{{5, 0}, {5, 3}, {5, 4}, {5, 5}, {5, 6}, {5, 9}, {1, 9}, {9, 1}} {
		p := newPair(t, 1).note("a", one.tomb)
		if one.floor > 0 {
			p.note("b", one.floor)
		}
		p.is(one.floor, "a")
		for asOf := -2; asOf < 12; asOf++ {
			if ok := p.table.Allows("a", asOf); ok != (asOf >= one.floor && asOf >= one.tomb) {
				p.fail("Allows of the key as of %d is %v", asOf, ok)
			}
			for _, k := range []string{"b", "", "A", "aa"} {
				if ok := p.table.Allows(k, asOf); ok != (asOf >= one.floor) {
					p.fail("Allows(%q, %d) is %v", k, asOf, ok)
				}
			}
		}
		p.is(one.floor, "a")
	}
}

// P9.1: a number below 0 is below the floor, even where nothing is there.
func TestAllowsBelowZero(t *testing.T) {
	empty, passed := newPair(t, 1), newPair(t, 1).note("a", 5).note("b", 6)
	passed.pass(6, 1)
	for _, n := range notIndexes() {
		for _, p := range []*pair{empty, passed, newPair(t, 1).note("a", 5), newPair(t, 0).note("a", 5)} {
			for _, k := range []string{"", "a", "b"} {
				if n < 0 && p.table.Allows(k, n) {
					p.fail("Allows(%q, %d) is true", k, n)
				}
			}
		}
	}
	empty.from("a", 0)
	passed.from("a", 0)
}

// P9.1: Pass below, at and above the tombstones and the floor, and a second time.
func TestPass(t *testing.T) {
	keys := []string{"e", "d", "c", "b"} // falling, as their indexes rise
	for _, one := range []struct{ index, went, floor int }{
		{math.MinInt, 0, 8}, {-1, 0, 8}, {0, 0, 8}, {1, 0, 8}, {4, 0, 8}, {5, 1, 8}, {6, 1, 8}, {7, 3, 8}, {8, 3, 0},
		{9, 3, 0}, {10, 4, 0}, {11, 4, 0}, {math.MaxInt - 1, 4, 0}, {math.MaxInt, 4, 0},
	} {
		p := newPair(t, 4)
		p.pass(one.index, 0)
		p.note("e", 5).note("d", 7).note("c", 7).note("b", 10)
		p.note("a", 8).is(8, "b", "c", "d", "e")
		p.pass(one.index, one.went)
		left := slices.Clone(keys[one.went:])
		slices.Sort(left)
		p.is(one.floor, left...)
		p.from("none", one.floor)
		p.pass(one.index, 0)
		p.is(one.floor, left...)
		p.pass(10, 4-one.went)
		p.is(0)
		p.pass(10, 0)
		p.is(0)
	}
}

// P9.1: Pass goes by the index that a tombstone has come to, not by the first nor by the last one noted.
func TestPassOfAnIndexThatRose(t *testing.T) {
	p := newPair(t, 1).note("a", 3).note("a", 8).note("a", 5)
	p.pass(3, 0)
	p.pass(5, 0)
	p.pass(7, 0)
	p.from("a", 8)
	p.pass(8, 1)
	p = newPair(t, 0).note("a", 3).note("a", 8).note("a", 5)
	p.pass(7, 0)
	p.is(8)
	p.pass(8, 0)
	p.is(0)
}

// P9.1: the floor goes while tombstones above it stay, and the other way round.
func TestPassOfOneOfBoth(t *testing.T) {
	p := newPair(t, 1).note("a", 9).note("b", 4)
	p.pass(4, 0)
	p.is(0, "a")
	p.from("a", 9)
	p.from("b", 0)
	p = newPair(t, 1).note("a", 4).note("b", 9)
	p.pass(4, 1)
	p.is(9)
	p.from("a", 9)
}

// P9.1: behind a Pass that made room a new key has a tombstone again, as many as went, while the floor stays.
func TestRoomAgain(t *testing.T) {
	for index := range 5 {
		p := newPair(t, 3).note("a", 1).note("b", 2).note("c", 3).note("d", 9)
		went := min(index, 3)
		p.pass(index, went)
		for i := range went {
			p.note(fmt.Sprintf("n%d", i), 20+i)
			p.from(fmt.Sprintf("n%d", i), 20+i)
		}
		if p.table.Len() != 3 || p.table.Floor() != 9 {
			p.fail("%d tombstones, floor %d", p.table.Len(), p.table.Floor())
		}
		p.note("n9", 30)
		if p.table.Len() != 3 || p.table.Floor() != 30 {
			p.fail("%d tombstones, floor %d", p.table.Len(), p.table.Floor())
		}
	}
	p := newPair(t, 1).note("a", 5)
	p.pass(5, 1)
	p.note("a", 2).is(0, "a") // its old index counts no more
	p.from("a", 2)
}

// P9.1: Keys are rising, in whatever order they were noted.
func TestKeysRise(t *testing.T) {
	r := rand.New(rand.NewSource(90))
	for _, want := range [][]string{{}, {""}, {"a"}, {"a", "b"}, {"", "B", "a", "aa", "b"}, {"\x00", "10", "9", "a", "a\x00", "\xff"}} {
		for range 300 {
			order, p := r.Perm(len(want)), newPair(t, len(want)+1)
			for i, place := range order {
				p.note(want[place], len(want)-i)
			}
			p.is(0, want...)
			p.is(0, want...)
			for _, place := range order {
				p.note(want[place], 10+place)
			}
			p.is(0, want...)
			p.pass(10+len(want)/2-1, len(want)/2)
			p.is(0, want[len(want)/2:]...)
		}
	}
}

// P9.1: the slice of Keys is the caller's, spare room too.
func TestKeysAreTheCallers(t *testing.T) {
	for n := range 6 {
		p := newPair(t, 6)
		var want []string
		for i := range n {
			want = append(want, fmt.Sprint(i))
			p.note(want[i], i+1)
		}
		one, other := p.table.Keys(), p.table.Keys()
		for i := range one[:cap(one)] {
			one[:cap(one)][i] = "spoilt"
		}
		_ = append(one, "more")
		if !slices.Equal(other, want) {
			t.Errorf("another answer is %q, not %q", other, want)
		}
		p.is(0, want...)
		p.same()
		p.pass(n, n)
		p.note("later", 1)
		if !slices.Equal(other, want) {
			t.Errorf("an answer is %q behind later calls, not %q", other, want)
		}
	}
}

// P9.1: the calls that only ask change nothing, and answer the same as often as they are made.
func TestAskingChangesNothing(t *testing.T) {
	p := newPair(t, 20)
	for i := range 40 {
		p.note(fmt.Sprint(i%30), i+1)
	}
	for range 20 {
		p.same()
	}
	p.pass(15, 5)
	for range 20 {
		p.same()
	}
}

// P9.1: behind Clear nothing is there, the floor is 0, and there is room for as many as the limit.
func TestClear(t *testing.T) {
	keys := []string{"", "a", "b", "c", "d"}
	for n := range len(keys) + 1 {
		p := newPair(t, 3)
		p.clear()
		for i, k := range keys[:n] {
			p.note(k, 10+i)
		}
		p.clear()
		p.is(0)
		for _, k := range keys {
			p.from(k, 0)
		}
		p.pass(100, 0)
		p.clear()
		p.is(0)
		p.note("a", 2).is(0, "a")
		p.from("a", 2)
		p.note("c", 1).note("b", 3).is(0, "a", "b", "c")
		p.note("d", 1).is(1, "a", "b", "c")
		p.clear()
		p.note("d", 1).is(0, "d")
	}
}

// P9.1: a nil table keeps nothing, and allows all.
func TestNil(t *testing.T) {
	var h *holdoff.Table
	for range 2 {
		for _, n := range append(notIndexes(), indexes()...) {
			for _, k := range []string{"", "a"} {
				h.Note(k, n)
				if !h.Allows(k, n) || !h.Allows(k, 0) || !h.Allows(k, -1) || !h.Allows(k, math.MinInt) {
					t.Errorf("Allows is false behind Note(%q, %d)", k, n)
				}
			}
			if went := h.Pass(n); went != 0 {
				t.Errorf("Pass(%d) is %d", n, went)
			}
		}
		if h.Len() != 0 || h.Floor() != 0 || len(h.Keys()) != 0 {
			t.Errorf("%d tombstones, floor %d, %q", h.Len(), h.Floor(), h.Keys())
		}
		h.Clear()
	}
}

// P9.1: two tables have nothing of each other.
func TestTwoTables(t *testing.T) {
	p, q := newPair(t, 1), newPair(t, 2)
	if p.table == q.table || holdoff.New(1) == holdoff.New(1) {
		t.Error("the same table is answered twice")
	}
	p.note("a", 5).note("b", 6)
	q.is(0)
	q.same()
	q.note("a", 1).note("b", 2)
	p.is(6, "a")
	p.pass(6, 1)
	q.is(0, "a", "b")
	q.note("c", 3)
	p.is(0)
	q.clear()
	p.note("c", 3)
	q.is(0)
}

// everyCall is each call with a few keys and indexes.
func everyCall() []call {
	calls := []call{{kind: "Clear"}}
	for index := range 4 {
		calls = append(calls, call{"Pass", tomb{index: index}})
		for _, key := range []string{"", "a", "b"} {
			if index > 0 || key == "a" {
				calls = append(calls, call{"Note", tomb{key, index}})
			}
		}
	}
	return calls
}

// P9.1, P9.2, P9.3: each run of three calls behind each beginning of a list of Notes, in small tables.
func TestEachRunOfFewCalls(t *testing.T) {
	calls := everyCall()
	first := []tomb{{"b", 2}, {"c", 1}, {"d", 2}}
	for limit := range 4 {
		for ahead := range len(first) + 1 {
			for n := range len(calls) * len(calls) * len(calls) {
				p := newPair(t, limit)
				for _, x := range first[:ahead] {
					p.do(call{"Note", x})
				}
				for rest, i := n, 0; i < 3; rest, i = rest/len(calls), i+1 {
					p.do(calls[rest%len(calls)])
				}
			}
		}
	}
}

// byChance is a call, mostly a Note, of some keys, with indexes that rise as time goes by.
func byChance(r *rand.Rand, now, keys int) call {
	x := tomb{fmt.Sprintf("k%d", r.Intn(keys)), now/4 + r.Intn(12) - 2}
	switch d := r.Intn(100); {
	case d < 80:
		return call{"Note", x}
	case d < 99:
		return call{"Pass", tomb{index: x.index - 4}}
	}
	return call{kind: "Clear"}
}

// P9.1, P9.2, P9.3: calls by chance, in tables of several limits.
func TestCallsByChance(t *testing.T) {
	r := rand.New(rand.NewSource(9))
	for _, limit := range []int{0, 1, 2, 5, api.MaxTombs, math.MaxInt} {
		for _, keys := range []int{1, 3, 10, 50} {
			p := newPair(t, limit)
			for now := range 1000 {
				p.do(byChance(r, now, keys))
			}
		}
	}
}

// P9.2, without the model: nothing below an index that was noted is allowed of its key, till a Pass of it or above, or a Clear.
func TestHoldsOff(t *testing.T) {
	r := rand.New(rand.NewSource(99))
	for limit := -1; limit <= 6; limit++ {
		for _, keys := range []int{1, 4, 12} {
			h, held, roomless := holdoff.New(limit), map[string]int{}, 0
			for now := range 2000 {
				c := byChance(r, now, keys)
				c.of(h)
				switch c.kind {
				case "Note":
					held[c.key] = max(held[c.key], c.index)
				case "Pass":
					for k, n := range held {
						if n <= c.index {
							delete(held, k)
						}
					}
				default:
					clear(held)
				}
				if h.Floor() > 0 {
					roomless++
				}
				for k, n := range held {
					if n > 0 && (h.Allows(k, n-1) || h.Allows(k, n/2) || h.Allows(k, 0)) {
						t.Fatalf("limit %d: %q is allowed below %d behind %v", limit, k, n, c)
					}
				}
			}
			if (roomless > 0) != (limit < keys) {
				t.Errorf("limit %d, %d keys: a floor behind %d calls", limit, keys, roomless)
			}
		}
	}
}

// P9.2, without the model: one key stays held off through many calls that don't end it, and not behind its end.
func TestOneKeyAmongMany(t *testing.T) {
	r := rand.New(rand.NewSource(999))
	for _, limit := range []int{0, 1, 2, api.MaxTombs} {
		for _, ahead := range []int{0, 1, 5} { // with enough ahead there is no room for the one
			for _, end := range []call{{"Pass", tomb{index: 200}}, {"Pass", tomb{index: math.MaxInt}}, {kind: "Clear"}} {
				h := holdoff.New(limit)
				for i := range ahead {
					h.Note(fmt.Sprintf("k%d", i), i+1)
				}
				h.Note("one", 200)
				for now := range 400 {
					c := byChance(r, now, 4)
					if c.index > 199 || c.kind == "Clear" {
						c = call{"Pass", tomb{index: 199}}
					}
					c.of(h)
					if h.Allows("one", 199) || h.Allows("one", 0) || !h.Allows("one", 200) {
						t.Fatalf("limit %d, %d ahead: not held off at 200 behind %v", limit, ahead, c)
					}
				}
				end.of(h)
				if !h.Allows("one", 0) {
					t.Errorf("limit %d, %d ahead: held off behind %v", limit, ahead, end)
				}
			}
		}
	}
}

// P9.3, without the model: never more tombstones than the limit, and none behind a Pass of the greatest index that was noted.
func TestNeverMoreThanTheLimit(t *testing.T) {
	r := rand.New(rand.NewSource(9999))
	for limit := -1; limit <= 6; limit++ {
		h, greatest := holdoff.New(limit), 0
		for now := range 3000 {
			c := byChance(r, now, 8)
			c.of(h)
			if c.kind == "Note" {
				greatest = max(greatest, c.index)
			}
			if h.Len() > max(limit, 0) || h.Len() != len(h.Keys()) {
				t.Fatalf("%d tombstones, %q, of %d behind %v", h.Len(), h.Keys(), limit, c)
			}
			if now%50 != 49 {
				continue
			}
			had := h.Len()
			if went := h.Pass(greatest); went != had {
				t.Fatalf("limit %d: %d of %d went", limit, went, had)
			}
			if h.Len() != 0 || h.Floor() != 0 || len(h.Keys()) != 0 {
				t.Fatalf("limit %d: %d tombstones, floor %d behind Pass(%d)", limit, h.Len(), h.Floor(), greatest)
			}
			for k := range 8 {
				if !h.Allows(fmt.Sprintf("k%d", k), 0) {
					t.Fatalf("limit %d: k%d isn't allowed behind Pass(%d)", limit, k, greatest)
				}
			}
		}
	}
}
