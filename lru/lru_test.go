package lru_test

import (
	"fmt"
	"math"
	"math/rand"
	"slices"
	"strings"
	"testing"

	"meridian/lru"
)

// The exact signatures: another one would not build.
var (
	_ func(int) *lru.Cache[int]                                = lru.New[int]
	_ func(*lru.Cache[int], string, int, int) ([]string, bool) = (*lru.Cache[int]).Put
	_ func(*lru.Cache[int], string) (int, bool)                = (*lru.Cache[int]).Get
	_ func(*lru.Cache[int], string) (int, bool)                = (*lru.Cache[int]).Peek
	_ func(*lru.Cache[int], string) bool                       = (*lru.Cache[int]).Drop
	_ func(*lru.Cache[int], int) ([]string, bool)              = (*lru.Cache[int]).Reserve
	_ func(*lru.Cache[int], int)                               = (*lru.Cache[int]).Release
	_ func(*lru.Cache[int]) int                                = (*lru.Cache[int]).Used
	_ func(*lru.Cache[int]) int                                = (*lru.Cache[int]).Reserved
	_ func(*lru.Cache[int]) []string                           = (*lru.Cache[int]).Keys
	_ func(*lru.Cache[int])                                    = (*lru.Cache[int]).Clear
)

// thing is what a cache is filled with ahead of a call.
type thing struct {
	key  string
	size int
}

// filled is a cache with so much reserved and with these things, put in this order, each with its place as its value,
// from 1 on. Nothing goes on the way.
func filled(t *testing.T, room, reserved int, things ...thing) *pair {
	t.Helper()
	p := newPair(t, room)
	p.reserve(reserved)
	for i, g := range things {
		p.put(g.key, g.size, i+1)
	}
	if p.cache.Reserved() != reserved || len(p.cache.Keys()) != len(things) {
		p.fail("%d reserved, keys %s", p.cache.Reserved(), short(p.cache.Keys()))
	}
	return p
}

// has holds a cache to what is told here in plain numbers, beside the model.
func (p *pair) has(used, reserved int, keys ...string) {
	p.t.Helper()
	c := p.cache
	if c.Used() != used || c.Reserved() != reserved || !slices.Equal(c.Keys(), keys) {
		p.fail("used %d, reserved %d, keys %s, not %d, %d, %s", c.Used(), c.Reserved(), short(c.Keys()), used, reserved, short(keys))
	}
	p.check()
}

// P6.1: the chapter's example.
func TestExample(t *testing.T) {
	c := lru.New[string](10)
	for _, k := range []string{"a", "b"} {
		if gone, ok := c.Put(k, 4, "of "+k); !ok || len(gone) != 0 {
			t.Errorf("Put of %q is %q, %v", k, gone, ok)
		}
	}
	if v, ok := c.Get("a"); v != "of a" || !ok {
		t.Errorf("Get is %q, %v", v, ok)
	}
	if gone, ok := c.Put("c", 4, "of c"); !ok || !slices.Equal(gone, []string{"b"}) {
		t.Errorf("Put is %q, %v", gone, ok)
	}
	if gone, ok := c.Reserve(5); !ok || !slices.Equal(gone, []string{"a"}) {
		t.Errorf("Reserve is %q, %v", gone, ok)
	}
	if c.Used() != 9 || c.Reserved() != 5 {
		t.Errorf("used %d, reserved %d", c.Used(), c.Reserved())
	}
	if gone, ok := c.Put("d", 6, "of d"); ok || len(gone) != 0 {
		t.Errorf("Put of more than there is is %q, %v", gone, ok)
	}
	if !slices.Equal(c.Keys(), []string{"c"}) || c.Used() != 9 {
		t.Errorf("keys %q, used %d", c.Keys(), c.Used())
	}
}

// P6.1, P6.2: a room of 0 and below takes what has no size, and nothing else.
func TestNew(t *testing.T) {
	for _, room := range []int{0, -1, -10, math.MinInt} {
		p := newPair(t, room)
		p.has(0, 0)
		p.put("a", 1, 1)
		p.reserve(1)
		p.put("a", -1, 1)
		p.reserve(-1)
		p.put("a", math.MaxInt, 1)
		p.reserve(math.MaxInt)
		p.has(0, 0)
		p.put("a", 0, 2)
		p.put("", 0, 3)
		p.reserve(0)
		p.has(0, 0, "", "a")
		p.get("a")
		p.put("a", 1, 4)
		p.has(0, 0, "")
	}
	for _, room := range []int{1, 2, 10, 1 << 31, math.MaxInt - 1, math.MaxInt} {
		p := newPair(t, room)
		p.has(0, 0)
		p.put("a", room, 1)
		p.has(room, 0, "a")
		p.reserve(room)
		p.has(room, room)
		p.put("a", 1, 2)
		p.reserve(1)
		p.has(room, room)
		p.put("a", 0, 3)
		p.has(room, room, "a")
		p.release(room)
		p.has(0, 0, "a")
	}
	if lru.New[int](1) == lru.New[int](1) {
		t.Error("New answers the same cache twice")
	}
}

// P6.1, P6.2: a Put of a new key beside two that are there, of each size up to the edges: what goes, and what is used
// behind it.
func TestPutNew(t *testing.T) {
	for _, one := range []struct {
		reserved, size int
		ok             bool
		gone, keys     []string
		used           int
	}{
		{0, 0, true, nil, []string{"n", "b", "a"}, 7},
		{0, 1, true, nil, []string{"n", "b", "a"}, 8},
		{0, 3, true, nil, []string{"n", "b", "a"}, 10},
		{0, 4, true, []string{"a"}, []string{"n", "b"}, 8},
		{0, 6, true, []string{"a"}, []string{"n", "b"}, 10},
		{0, 7, true, []string{"a", "b"}, []string{"n"}, 7},
		{0, 10, true, []string{"a", "b"}, []string{"n"}, 10},
		{0, 11, false, nil, []string{"b", "a"}, 7},
		{0, -1, false, nil, []string{"b", "a"}, 7},
		{0, math.MinInt, false, nil, []string{"b", "a"}, 7},
		{0, math.MaxInt, false, nil, []string{"b", "a"}, 7},
		{2, 1, true, nil, []string{"n", "b", "a"}, 10},
		{2, 2, true, []string{"a"}, []string{"n", "b"}, 8},
		{2, 4, true, []string{"a"}, []string{"n", "b"}, 10},
		{2, 5, true, []string{"a", "b"}, []string{"n"}, 7},
		{2, 8, true, []string{"a", "b"}, []string{"n"}, 10},
		{2, 9, false, nil, []string{"b", "a"}, 9},
		{2, 10, false, nil, []string{"b", "a"}, 9},
		{2, 11, false, nil, []string{"b", "a"}, 9},
		{2, -1, false, nil, []string{"b", "a"}, 9},
		{3, 0, true, nil, []string{"n", "b", "a"}, 10},
		{3, 7, true, []string{"a", "b"}, []string{"n"}, 10},
		{3, 8, false, nil, []string{"b", "a"}, 10},
		{3, math.MaxInt, false, nil, []string{"b", "a"}, 10},
	} {
		p := filled(t, 10, one.reserved, thing{"a", 3}, thing{"b", 4})
		p.put("n", one.size, 9)
		p.has(one.used, one.reserved, one.keys...)
		q := filled(t, 10, one.reserved, thing{"a", 3}, thing{"b", 4})
		if gone, ok := q.cache.Put("n", one.size, 9); ok != one.ok || !slices.Equal(gone, one.gone) {
			t.Errorf("%d reserved: Put of %d is %q, %v, not %q, %v", one.reserved, one.size, gone, ok, one.gone, one.ok)
		}
		if v, ok := q.cache.Peek("n"); ok != one.ok || ok && v != 9 || !ok && v != 0 {
			t.Errorf("%d reserved: behind Put of %d Peek is %d, %v", one.reserved, one.size, v, ok)
		}
	}
}

// P6.1, P6.2: a Put of a key that is there: what it has goes first, makes room for the new thing, is never told, and
// stays away where the answer is false.
func TestPutThere(t *testing.T) {
	for _, one := range []struct {
		key        string
		size       int
		ok         bool
		gone, keys []string
		used       int
	}{
		{"b", 3, true, nil, []string{"b", "c", "a"}, 10},
		{"b", 2, true, nil, []string{"b", "c", "a"}, 9},
		{"b", 0, true, nil, []string{"b", "c", "a"}, 7},
		{"b", 4, true, []string{"a"}, []string{"b", "c"}, 8},
		{"b", 6, true, []string{"a"}, []string{"b", "c"}, 10},
		{"b", 7, true, []string{"a", "c"}, []string{"b"}, 8},
		{"b", 9, true, []string{"a", "c"}, []string{"b"}, 10},
		{"b", 10, false, nil, []string{"c", "a"}, 7},
		{"b", 11, false, nil, []string{"c", "a"}, 7},
		{"b", -1, false, nil, []string{"c", "a"}, 7},
		{"b", math.MinInt, false, nil, []string{"c", "a"}, 7},
		{"b", math.MaxInt, false, nil, []string{"c", "a"}, 7},
		{"a", 3, true, nil, []string{"a", "c", "b"}, 10},
		{"a", 4, true, []string{"b"}, []string{"a", "c"}, 8},
		{"a", 7, true, []string{"b", "c"}, []string{"a"}, 8},
		{"a", 10, false, nil, []string{"c", "b"}, 7},
		{"c", 3, true, nil, []string{"c", "b", "a"}, 10},
		{"c", 4, true, []string{"a"}, []string{"c", "b"}, 8},
		{"c", 9, true, []string{"a", "b"}, []string{"c"}, 10},
		{"c", -1, false, nil, []string{"b", "a"}, 7},
	} {
		three := []thing{{"a", 3}, {"b", 3}, {"c", 3}}
		p := filled(t, 10, 1, three...)
		p.put(one.key, one.size, 9)
		p.has(one.used, 1, one.keys...)
		q := filled(t, 10, 1, three...)
		if gone, ok := q.cache.Put(one.key, one.size, 9); ok != one.ok || !slices.Equal(gone, one.gone) {
			t.Errorf("Put of %q, %d is %q, %v, not %q, %v", one.key, one.size, gone, ok, one.gone, one.ok)
		}
		if v, ok := q.cache.Get(one.key); ok != one.ok || ok && v != 9 || !ok && v != 0 {
			t.Errorf("behind Put of %q, %d Get is %d, %v", one.key, one.size, v, ok)
		}
	}
}

// P6.1, P6.2: a key alone in its cache, put anew with each size.
func TestPutThereAlone(t *testing.T) {
	for was := 0; was <= 5; was++ {
		for size := -2; size <= 7; size++ {
			for reserved := 0; reserved+was <= 5; reserved++ {
				p := filled(t, 5, reserved, thing{"", was})
				p.put("", size, 9)
				if size >= 0 && size+reserved <= 5 {
					p.has(reserved+size, reserved, "")
				} else {
					p.has(reserved, reserved)
				}
			}
		}
	}
}

// P6.1, P6.3: things of no size go as well where they are the last ones, and only where room is wanting.
func TestThingsOfNoSize(t *testing.T) {
	p := filled(t, 4, 0, thing{"a", 0}, thing{"b", 4}, thing{"c", 0}, thing{"d", 0})
	p.put("e", 0, 5)
	p.has(4, 0, "e", "d", "c", "b", "a")
	p.get("d")
	if gone, ok := p.cache.Put("f", 1, 6); !ok || !slices.Equal(gone, []string{"a", "b"}) {
		t.Errorf("Put is %q, %v", gone, ok)
	}
	if keys := p.cache.Keys(); !slices.Equal(keys, []string{"f", "d", "e", "c"}) || p.cache.Used() != 1 {
		t.Errorf("keys %q, used %d", keys, p.cache.Used())
	}
	if gone, ok := p.cache.Reserve(4); !ok || !slices.Equal(gone, []string{"c", "e", "d", "f"}) {
		t.Errorf("Reserve is %q, %v", gone, ok)
	}
}

// P6.1: a key is any text, the empty one too, and each byte of it counts.
func TestKeys(t *testing.T) {
	keys := []string{"", "\x00", "\x00\x00", "a", "A", "a\x00", "aa", "é", "\xc3", "\xff", "\xff\xff",
		strings.Repeat("x", 64), strings.Repeat("x", 65), strings.Repeat("x", 5000)}
	p := newPair(t, len(keys))
	for i, k := range keys {
		p.get(k)
		p.drop(k)
		p.put(k, 1, i+1)
	}
	if len(p.cache.Keys()) != len(keys) {
		t.Errorf("keys %s", short(p.cache.Keys()))
	}
	for _, k := range keys {
		p.get(k)
	}
	for _, k := range keys {
		p.drop(k)
		p.drop(k)
	}
	p.has(0, 0)
}

// P6.1, P6.3: Get of the last, a middle one and the latest makes it the latest; Peek and a Get of what isn't there leave
// the order.
func TestGetAndPeek(t *testing.T) {
	three := []thing{{"a", 1}, {"b", 2}, {"c", 3}}
	for key, keys := range map[string][]string{
		"a": {"a", "c", "b"}, "b": {"b", "c", "a"}, "c": {"c", "b", "a"}, "": {"c", "b", "a"}, "d": {"c", "b", "a"}} {
		want := strings.Index("abc", key) + 1
		if key == "" {
			want = 0
		}
		p := filled(t, 6, 0, three...)
		if v, ok := p.cache.Peek(key); v != want || ok != (want > 0) {
			t.Errorf("Peek of %q is %d, %v", key, v, ok)
		}
		p.has(6, 0, "c", "b", "a")
		p.get(key)
		p.has(6, 0, keys...)
		if v, ok := p.cache.Get(key); v != want || ok != (want > 0) {
			t.Errorf("Get of %q is %d, %v", key, v, ok)
		}
		p.has(6, 0, keys...)
		if gone, _ := p.cache.Put("n", 1, 9); !slices.Equal(gone, keys[2:]) {
			t.Errorf("behind Get of %q goes %q", key, gone)
		}
	}
	p := filled(t, 6, 0, three...)
	for range 5 {
		p.cache.Peek("a")
	}
	if gone, _ := p.cache.Put("n", 1, 9); !slices.Equal(gone, []string{"a"}) {
		t.Errorf("behind Peek goes %q", gone)
	}
}

// P6.1: Drop of the last, a middle one, the latest, of a thing of no size, and of what isn't there.
func TestDrop(t *testing.T) {
	for key, left := range map[string][]string{
		"a": {"d", "c", "b"}, "b": {"d", "c", "a"}, "c": {"d", "b", "a"}, "d": {"c", "b", "a"}} {
		p := filled(t, 20, 5, thing{"a", 1}, thing{"b", 2}, thing{"c", 0}, thing{"d", 4})
		size := map[string]int{"a": 1, "b": 2, "d": 4}[key]
		if !p.cache.Drop(key) || p.cache.Drop(key) {
			t.Errorf("Drop of %q isn't true once", key)
		}
		p.model.drop(key)
		p.has(12-size, 5, left...)
		p.drop("")
		p.drop("e")
		p.drop(key)
		p.has(12-size, 5, left...)
		p.put(key, 2, 9)
		p.has(14-size, 5, append([]string{key}, left...)...)
		for _, k := range []string{"a", "b", "c", "d"} {
			p.drop(k)
		}
		p.has(5, 5)
	}
}

// P6.1, P6.2: Reserve up to its edges, with nothing, some and all that goes for it.
func TestReserve(t *testing.T) {
	for _, one := range []struct {
		reserved, n int
		ok          bool
		gone, keys  []string
		used        int
	}{
		{0, 0, true, nil, []string{"c", "b", "a"}, 9},
		{0, 1, true, nil, []string{"c", "b", "a"}, 10},
		{0, 2, true, []string{"a"}, []string{"c", "b"}, 9},
		{0, 3, true, []string{"a"}, []string{"c", "b"}, 10},
		{0, 4, true, []string{"a", "b"}, []string{"c"}, 8},
		{0, 6, true, []string{"a", "b"}, []string{"c"}, 10},
		{0, 7, true, []string{"a", "b", "c"}, nil, 7},
		{0, 10, true, []string{"a", "b", "c"}, nil, 10},
		{0, 11, false, nil, []string{"c", "b", "a"}, 9},
		{0, -1, false, nil, []string{"c", "b", "a"}, 9},
		{0, math.MinInt, false, nil, []string{"c", "b", "a"}, 9},
		{0, math.MaxInt, false, nil, []string{"c", "b", "a"}, 9},
		{1, 0, true, nil, []string{"c", "b", "a"}, 10},
		{1, 1, true, []string{"a"}, []string{"c", "b"}, 9},
		{1, 9, true, []string{"a", "b", "c"}, nil, 10},
		{1, 10, false, nil, []string{"c", "b", "a"}, 10},
		{1, -1, false, nil, []string{"c", "b", "a"}, 10},
		{1, math.MaxInt, false, nil, []string{"c", "b", "a"}, 10},
	} {
		things := []thing{{"a", 2}, {"b", 3}, {"c", 4}}
		p := filled(t, 10, one.reserved, things...)
		p.reserve(one.n)
		reserved := one.reserved
		if one.ok {
			reserved += one.n
		}
		p.has(one.used, reserved, one.keys...)
		q := filled(t, 10, one.reserved, things...)
		if gone, ok := q.cache.Reserve(one.n); ok != one.ok || !slices.Equal(gone, one.gone) {
			t.Errorf("%d reserved: Reserve(%d) is %q, %v, not %q, %v", one.reserved, one.n, gone, ok, one.gone, one.ok)
		}
	}
	p := filled(t, 10, 10)
	p.reserve(0)
	p.reserve(1)
	p.has(10, 10)
}

// P6.1: Release of nothing, a part, all and more; things neither come nor go by it.
func TestRelease(t *testing.T) {
	for _, one := range []struct{ reserved, n, left int }{
		{5, 0, 5}, {5, -1, 5}, {5, math.MinInt, 5}, {5, 1, 4}, {5, 4, 1}, {5, 5, 0}, {5, 6, 0}, {5, 10, 0}, {5, 11, 0},
		{5, math.MaxInt, 0}, {0, 0, 0}, {0, 1, 0}, {0, -1, 0}, {0, math.MinInt, 0}, {0, math.MaxInt, 0},
	} {
		p := filled(t, 10, one.reserved, thing{"a", 2}, thing{"b", 3})
		p.release(one.n)
		p.has(one.left+5, one.left, "b", "a")
		p.put("n", 5-one.left, 9)
		p.has(10, one.left, "n", "b", "a")
		p.release(math.MaxInt)
		p.has(10-one.left, 0, "n", "b", "a")
	}
}

// P6.1: Clear leaves what is reserved, and the whole of the rest is free again.
func TestClear(t *testing.T) {
	for reserved := 0; reserved <= 5; reserved++ {
		p := filled(t, 10, reserved, thing{"a", 2}, thing{"b", 3}, thing{"", 0})
		p.clear()
		p.has(reserved, reserved)
		p.get("a")
		p.drop("b")
		p.clear()
		p.has(reserved, reserved)
		p.put("n", 10-reserved, 9)
		p.has(10, reserved, "n")
		p.put("b", 0, 8)
		p.has(10, reserved, "b", "n")
		p.release(reserved)
		p.clear()
		p.has(0, 0)
	}
	newPair(t, 0).clear()
}

// P6.1: a nil cache.
func TestNil(t *testing.T) {
	var c *lru.Cache[int]
	for range 2 {
		for _, n := range []int{0, 1, -1, math.MaxInt, math.MinInt} {
			if gone, ok := c.Put("a", n, 7); ok || len(gone) != 0 {
				t.Errorf("Put is %q, %v", gone, ok)
			}
			if gone, ok := c.Reserve(n); ok || len(gone) != 0 {
				t.Errorf("Reserve is %q, %v", gone, ok)
			}
			c.Release(n)
		}
		for _, k := range []string{"", "a"} {
			if v, ok := c.Get(k); v != 0 || ok {
				t.Errorf("Get is %d, %v", v, ok)
			}
			if v, ok := c.Peek(k); v != 0 || ok {
				t.Errorf("Peek is %d, %v", v, ok)
			}
			if c.Drop(k) {
				t.Error("Drop is true")
			}
		}
		if c.Used() != 0 || c.Reserved() != 0 || len(c.Keys()) != 0 {
			t.Errorf("used %d, reserved %d, keys %q", c.Used(), c.Reserved(), c.Keys())
		}
		c.Clear()
	}
}

// P6.1: values of other types, and beside false the zero one of each.
func TestOtherValues(t *testing.T) {
	type point struct{ x, y int }
	points := lru.New[point](1)
	points.Put("a", 1, point{1, 2})
	if v, ok := points.Get("a"); v != (point{1, 2}) || !ok {
		t.Errorf("Get is %v, %v", v, ok)
	}
	if v, ok := points.Get("b"); v != (point{}) || ok {
		t.Errorf("Get is %v, %v", v, ok)
	}
	lists := lru.New[[]byte](1)
	lists.Put("a", 0, nil)
	if v, ok := lists.Get("a"); v != nil || !ok {
		t.Errorf("Get is %v, %v", v, ok)
	}
	if v, ok := lists.Peek("b"); v != nil || ok {
		t.Errorf("Peek is %v, %v", v, ok)
	}
	n := 3
	several := lru.New[any](1)
	several.Put("a", 0, &n)
	several.Put("b", 0, nil)
	if v, ok := several.Peek("a"); v != &n || !ok {
		t.Errorf("Peek is %v, %v", v, ok)
	}
	if v, ok := several.Get("b"); v != nil || !ok {
		t.Errorf("Get is %v, %v", v, ok)
	}
	funcs := lru.New[func() int](1)
	funcs.Put("a", 1, func() int { return 5 })
	if f, ok := funcs.Get("a"); !ok || f() != 5 {
		t.Error("Get of a function")
	}
	if f, ok := funcs.Get("b"); f != nil || ok {
		t.Error("Get of no function")
	}
}

// P6.1: two caches have nothing of each other.
func TestTwoCaches(t *testing.T) {
	p := filled(t, 10, 2, thing{"a", 3}, thing{"b", 3})
	q := filled(t, 10, 1, thing{"b", 4}, thing{"c", 4})
	p.put("d", 8, 9)
	p.clear()
	q.has(9, 1, "c", "b")
	q.release(1)
	q.reserve(6)
	p.has(2, 2)
}

// P6.1: lists that were answered are new memory, spare room too: what is done to them is seen nowhere.
func TestListsAreNew(t *testing.T) {
	p := filled(t, 10, 0, thing{"a", 1}, thing{"b", 1}, thing{"c", 4}, thing{"d", 4})
	spoil := func(list []string) []string {
		kept := slices.Clone(list)
		list = list[:cap(list)]
		for i := range list {
			list[i] = "spoilt"
		}
		return kept
	}
	one, two := p.cache.Keys(), p.cache.Keys()
	spoil(one)
	if !slices.Equal(two, []string{"d", "c", "b", "a"}) {
		t.Errorf("two lists of Keys share: %q", two)
	}
	p.has(10, 0, "d", "c", "b", "a")
	went, _ := p.cache.Put("e", 2, 5)
	kept := spoil(went)
	more, _ := p.cache.Reserve(8)
	if !slices.Equal(kept, []string{"a", "b"}) || !slices.Equal(spoil(more), []string{"c", "d"}) {
		t.Errorf("%q and %q went", kept, more)
	}
	if !slices.Equal(p.cache.Keys(), []string{"e"}) || went[0] != "spoilt" {
		t.Errorf("keys %q, went %q", p.cache.Keys(), went)
	}
}

// call is one call of those that the tests make up, by chance or all of them.
type call struct {
	kind, key string
	n         int
}

func (p *pair) do(c call, v int) {
	p.t.Helper()
	switch c.kind {
	case "put":
		p.put(c.key, c.n, v)
	case "get":
		p.get(c.key)
	case "drop":
		p.drop(c.key)
	case "reserve":
		p.reserve(c.n)
	case "release":
		p.release(c.n)
	case "clear":
		p.clear()
	}
}

// P6.1, P6.2: each run of three calls, behind some that fill a small cache, at each small room.
func TestEachRunOfFewCalls(t *testing.T) {
	calls := []call{{kind: "clear"}}
	for _, k := range []string{"a", "b", "c"} {
		for size := -1; size <= 4; size++ {
			calls = append(calls, call{"put", k, size})
		}
		calls = append(calls, call{"get", k, 0}, call{"drop", k, 0})
	}
	for n := -1; n <= 4; n++ {
		calls = append(calls, call{"reserve", "", n}, call{"release", "", n})
	}
	for room := 0; room <= 3; room++ {
		for _, first := range calls {
			for _, second := range calls {
				for _, third := range calls {
					p := newPair(t, room)
					p.put("a", 1, 1)
					p.put("b", 1, 2)
					p.do(first, 3)
					p.do(second, 4)
					p.do(third, 5)
				}
			}
		}
	}
}

// byChance is a call with a size that is mostly within the room, now and then at its edge or beyond.
func byChance(r *rand.Rand, room int, keys int) call {
	n := 0
	switch r.Intn(12) {
	case 0:
		n = -r.Intn(3)
	case 1:
		n = room - r.Intn(3)
	case 2:
		n = room/2 + r.Intn(room/2+1)
	default:
		n = r.Intn(room/4 + 2)
	}
	key := fmt.Sprintf("k%d", r.Intn(keys))
	switch d := r.Intn(100); {
	case d < 45:
		return call{"put", key, n}
	case d < 75:
		return call{"get", key, 0}
	case d < 82:
		return call{"drop", key, 0}
	case d < 90:
		return call{"reserve", "", n / 2}
	case d < 99:
		return call{"release", "", n}
	}
	return call{kind: "clear"}
}

// P6.1, P6.2: calls by chance, in small rooms and in the greatest.
func TestCallsByChance(t *testing.T) {
	r := rand.New(rand.NewSource(6))
	for _, room := range []int{1, 2, 5, 20, 100, 4096, math.MaxInt - 1} {
		for _, keys := range []int{2, 6, 40} {
			p := newPair(t, room)
			for i := range 3000 {
				p.do(byChance(r, room, keys), i+1)
			}
		}
	}
}

// P6.2: without the model: a thing goes only where otherwise more than the room would be used, so the one that went
// last had to go too; a call that is refused or brings nothing lets none go.
func TestNoneGoesInVain(t *testing.T) {
	r := rand.New(rand.NewSource(62))
	for _, room := range []int{3, 10, 50} {
		c, sizes, some := lru.New[int](room), map[string]int{}, 0
		for i := range 20000 {
			one := byChance(r, room, 12)
			_, was := c.Peek(one.key)
			before := len(c.Keys())
			var gone []string
			ok := true
			switch one.kind {
			case "put":
				gone, ok = c.Put(one.key, one.n, i)
				if was {
					before--
				}
				sizes[one.key] = one.n
				if ok {
					before++
				}
			case "reserve":
				gone, ok = c.Reserve(one.n)
			case "get":
				c.Get(one.key)
			case "release":
				c.Release(one.n)
			default:
				continue
			}
			if c.Used() > room || c.Used() < 0 {
				t.Fatalf("used %d of %d", c.Used(), room)
			}
			if left := len(c.Keys()); left != before-len(gone) || !ok && len(gone) > 0 {
				t.Fatalf("%v is %v: %d things, then %d, %q went", one, ok, before, left, gone)
			}
			if n := len(gone); n > 0 {
				some++
				if c.Used()+sizes[gone[n-1]] <= room {
					t.Fatalf("%v: %q went in vain: %d of %d used", one, gone[n-1], c.Used(), room)
				}
			}
		}
		if some < 1000 {
			t.Errorf("room %d: only %d calls let things go", room, some)
		}
	}
}

// P6.3: without the model: whatever went for want of room, at any time, was last used ahead of all that are there.
func TestThoseUsedLaterStay(t *testing.T) {
	r := rand.New(rand.NewSource(63))
	for _, keys := range []int{3, 12, 60} {
		c, when, went, some := lru.New[int](30), map[string]int{}, 0, 0
		for i := 1; i <= 20000; i++ {
			one := byChance(r, 30, keys)
			var gone []string
			used := false
			switch one.kind {
			case "put":
				gone, used = c.Put(one.key, one.n, i)
			case "get":
				_, used = c.Get(one.key)
			case "reserve":
				gone, _ = c.Reserve(one.n)
			case "release":
				c.Release(one.n)
			case "drop":
				c.Peek(one.key)
			}
			for _, k := range gone {
				if when[k] < went {
					t.Fatalf("%v: %q went behind one that was used later", one, k)
				}
				went = when[k]
				some++
			}
			if used {
				when[one.key] = i
			}
			for _, k := range c.Keys() {
				if when[k] <= went {
					t.Fatalf("%v: %q is there, used at %d; one went that was used at %d", one, k, when[k], went)
				}
			}
		}
		if some < 1000 {
			t.Errorf("%d keys: only %d things went", keys, some)
		}
	}
}

// P6.1, P6.3: many things: each Get and each Put finds its own, and all go at once in their order.
func TestManyThings(t *testing.T) {
	const count = 100000
	c := lru.New[int](count)
	for i := range 2 * count {
		if gone, ok := c.Put(fmt.Sprint(i), 1, i); !ok || i < count && len(gone) != 0 || i >= count && (len(gone) != 1 || gone[0] != fmt.Sprint(i-count)) {
			t.Fatalf("Put of %d is %q, %v", i, gone, ok)
		}
	}
	var want []string
	for i := range count {
		key := count + (i*7)%count // 7 has no part with count: each key once
		if v, ok := c.Get(fmt.Sprint(key)); v != key || !ok {
			t.Fatalf("Get of %d is %d, %v", key, v, ok)
		}
		want = append(want, fmt.Sprint(key))
	}
	gone, ok := c.Reserve(count)
	if !ok || !slices.Equal(gone, want) || c.Used() != count || len(c.Keys()) != 0 {
		t.Errorf("Reserve is %v; %d went, %d are used, %d are left", ok, len(gone), c.Used(), len(c.Keys()))
	}
}
