package sorted_test

import (
	"fmt"
	"math/bits"
	"math/rand"
	"slices"
	"strings"
	"testing"

	"meridian/sorted"
)

// pair is a key with its value, as All and From tell them.
type pair struct {
	key   string
	value int
}

func (p pair) String() string { return fmt.Sprintf("%q: %d", p.key, p.value) }

// model is what a map has, in no order at all: order is made when it is asked for.
type model map[string]int

// ahead is the chapter's order of texts, byte by byte, and so shares no comparing of strings with the program.
func ahead(a, b string) int {
	for i := range min(len(a), len(b)) {
		if a[i] != b[i] {
			return int(a[i]) - int(b[i])
		}
	}
	return len(a) - len(b)
}

func (d model) pairs() []pair {
	var list []pair
	for k, v := range d {
		list = append(list, pair{k, v})
	}
	slices.SortFunc(list, func(a, b pair) int { return ahead(a.key, b.key) })
	return list
}

// from is the first pair that isn't ahead of a text.
func from(pairs []pair, key string) (pair, bool) {
	for _, p := range pairs {
		if ahead(p.key, key) >= 0 {
			return p, true
		}
	}
	return pair{}, false
}

func (d model) copy() model {
	c := model{}
	for k, v := range d {
		c[k] = v
	}
	return c
}

// oddKeys are texts that hold the order at its edges: the empty one, beginnings, the least and the greatest bytes.
func oddKeys() []string {
	return []string{"", "\x00", "\x00\x00", "\x00\xff", "\x01", "a", "a\x00", "a\x00b", "aa", "ab", "a\xff", "a\xff\x00",
		"b", "k0", "k1", "k10", "k2", "Z", "z", "\x7f", "\x80", "é", "\xc3", "\xfe", "\xff", "\xff\x00", "\xff\xff",
		strings.Repeat("\x00", 64), strings.Repeat("\xff", 64), strings.Repeat("x", 1000), strings.Repeat("x", 1001)}
}

// around are texts beside some keys: they themselves, and what lies just below and just above each.
func around(keys []string) []string {
	list := []string{"", "\x00", "\xff", strings.Repeat("\xff", 70)}
	for _, k := range keys {
		list = append(list, k, k+"\x00", k+"\xff")
		if k != "" {
			end := len(k) - 1
			list = append(list, k[:end], k[:end]+string([]byte{k[end] - 1}), k[:end]+string([]byte{k[end] + 1}))
		}
	}
	slices.Sort(list)
	return slices.Compact(list)
}

// numbered are n texts of one length, rising.
func numbered(n int) []string {
	list := make([]string, n)
	for i := range list {
		list[i] = fmt.Sprintf("k%06d", i)
	}
	return list
}

// orders are some orders of the same keys, by name; those by chance are the same ones at each run.
func orders(rising []string) map[string][]string {
	falling := slices.Clone(rising)
	slices.Reverse(falling)
	var inwards, outwards []string
	for i, j := 0, len(rising)-1; i <= j; i, j = i+1, j-1 {
		inwards = append(inwards, rising[i])
		if i < j {
			inwards = append(inwards, rising[j])
		}
	}
	outwards = slices.Clone(inwards)
	slices.Reverse(outwards)
	mixed := slices.Clone(rising)
	r := rand.New(rand.NewSource(int64(len(rising))))
	r.Shuffle(len(mixed), func(i, j int) { mixed[i], mixed[j] = mixed[j], mixed[i] })
	return map[string][]string{"rising": rising, "falling": falling, "inwards": inwards, "outwards": outwards, "mixed": mixed}
}

// eachOrder goes through all orders of some few keys.
func eachOrder(keys []string, do func([]string)) {
	var place func(int)
	list := slices.Clone(keys)
	place = func(at int) {
		if at == len(list) {
			do(list)
			return
		}
		for i := at; i < len(list); i++ {
			list[at], list[i] = list[i], list[at]
			place(at + 1)
			list[at], list[i] = list[i], list[at]
		}
	}
	place(0)
}

// filled is a map with these keys, set in this order, each with its place as its value, and the model of it.
func filled(keys []string) (*sorted.Map[int], model) {
	m, d := sorted.New[int](), model{}
	for i, k := range keys {
		m.Set(k, i)
		d[k] = i
	}
	return m, d
}

func told(m *sorted.Map[int]) []pair {
	var list []pair
	for k, v := range m.All() {
		list = append(list, pair{k, v})
	}
	return list
}

// most is the bound that the chapter names.
func most(n int) int { return 2 * bits.Len(uint(n+1)) }

// checkDepth holds Depth to its bound, and to what no search by comparing alone stays below.
func checkDepth(t *testing.T, m *sorted.Map[int]) {
	t.Helper()
	if n, d := m.Len(), m.Depth(); d > most(n) || d < bits.Len(uint(n)) {
		t.Fatalf("Depth of %d keys is %d", n, d)
	}
}

// check holds all that a map answers to a model, at these texts and at the model's own keys.
func check(t *testing.T, m *sorted.Map[int], d model, texts ...string) {
	t.Helper()
	pairs := d.pairs()
	if m.Len() != len(d) {
		t.Fatalf("Len is %d, not %d", m.Len(), len(d))
	}
	if list := told(m); !slices.Equal(list, pairs) {
		t.Fatalf("All is %s, not %s", short(list), short(pairs))
	}
	checkDepth(t, m)
	for _, p := range pairs {
		checkText(t, m, d, pairs, p.key)
	}
	for _, k := range texts {
		checkText(t, m, d, pairs, k)
	}
}

func checkText(t *testing.T, m *sorted.Map[int], d model, pairs []pair, key string) {
	t.Helper()
	want, there := d[key]
	if v, ok := m.Get(key); v != want || ok != there {
		t.Fatalf("Get of %q is %d, %v, not %d, %v", key, v, ok, want, there)
	}
	next, some := from(pairs, key)
	if k, v, ok := m.From(key); k != next.key || v != next.value || ok != some {
		t.Fatalf("From of %q is %q, %d, %v, not %q, %d, %v", key, k, v, ok, next.key, next.value, some)
	}
}

// short keeps what a failing test tells within bounds.
func short(list []pair) string {
	if len(list) > 20 {
		return fmt.Sprintf("%v.. (%d pairs)", list[:20], len(list))
	}
	return fmt.Sprint(list)
}
