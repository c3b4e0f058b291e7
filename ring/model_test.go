package ring_test

import (
	"fmt"
	"math"
	"math/rand"
	"slices"
	"strings"
	"testing"

	"meridian/api"
	"meridian/ring"
	"meridian/sum"
)

// model is the nodes of a ring, each with its points, in no order: it is never sorted, and nothing is searched in it.
type model map[string][]uint64

// modelOf takes the first 8 different nodes.
func modelOf(nodes ...string) model {
	m := model{}
	for _, n := range nodes {
		m.add(n)
	}
	return m
}

func (m model) add(node string) {
	if len(m) == 8 || m[node] != nil {
		return
	}
	for j := range 16 {
		m[node] = append(m[node], sum.Hash(fmt.Sprintf("%s/%d", node, j)))
	}
}

// with and without are other models, made anew.
func (m model) with(node string) model { return modelOf(append(m.nodes(), node)...) }

func (m model) without(node string) model {
	var left []string
	for n := range m {
		if n != node {
			left = append(left, n)
		}
	}
	return modelOf(left...)
}

func (m model) nodes() []string {
	var out []string
	for n := range m {
		out = append(out, n)
	}
	slices.Sort(out)
	return out
}

// way is how far up from a hash a node's next point stands; behind the greatest number comes 0, so what wraps round is
// as far as it should be.
func (m model) way(node string, from uint64) uint64 {
	least := uint64(math.MaxUint64)
	for _, p := range m[node] {
		least = min(least, p-from)
	}
	return least
}

// owners takes out, again and again, the node with the shortest way, of several the least.
func (m model) owners(key string, n int) []string {
	var out []string
	left, from := m.nodes(), sum.Hash(key)
	for len(left) > 0 && len(out) < n {
		best := 0
		for i := range left {
			if m.way(left[i], from) < m.way(left[best], from) {
				best = i
			}
		}
		out = append(out, left[best])
		left = slices.Delete(left, best, best+1)
	}
	return out
}

// span is the least and the greatest of all points.
func (m model) span() (uint64, uint64) {
	least, greatest := uint64(math.MaxUint64), uint64(0)
	for _, points := range m {
		least, greatest = min(least, slices.Min(points)), max(greatest, slices.Max(points))
	}
	return least, greatest
}

// keys are ordinary ones, those whose hash is a point of some node, and those at the edges.
func keys() []string {
	out := []string{"", "/", "/0", "/15", "/16", "0", "a", "b", "a/", "a/0", "a/7", "a/15", "a/16", "a/00", "\x00", "\xff", "é",
		"n1", "n1/0", "n1/9", "n1/10", "n8/15", strings.Repeat("x", api.MaxKey), strings.Repeat("y", 5000)}
	for i := range 40 {
		out = append(out, fmt.Sprintf("k%d", i))
	}
	r := rand.New(rand.NewSource(10))
	for n := range 20 {
		b := make([]byte, n+1)
		r.Read(b)
		out = append(out, string(b))
	}
	return out
}

// numbers are how many owners are asked for: all that make a difference, and the ends.
func numbers() []int {
	return []int{math.MinInt, math.MinInt + 1, math.MinInt32, -8, -2, -1, 0, 1, 2, 3, 4, 5, 6, 7, 8, 9, 10, 16, 17, 128, 129,
		math.MaxInt32, 1 << 31, 1 << 32, 1<<32 + 1, math.MaxInt - 1, math.MaxInt}
}

// same holds all that can be asked of a ring to the model.
func same(t *testing.T, r *ring.Ring, m model) {
	t.Helper()
	if r == nil {
		t.Fatal("the ring is nil")
	}
	if got := r.Nodes(); !slices.Equal(got, m.nodes()) {
		t.Fatalf("Nodes is %.40q, not %.40q", got, m.nodes())
	}
	for _, k := range keys() {
		sameOf(t, r, m, k)
	}
}

// sameOf holds all that can be asked of one key.
func sameOf(t *testing.T, r *ring.Ring, m model, key string) {
	t.Helper()
	want := m.owners(key, len(m))
	for _, n := range numbers() {
		few := want[:max(min(n, len(want)), 0)]
		if got := r.Owners(key, n); !slices.Equal(got, few) {
			t.Fatalf("nodes %.40q: Owners(%.40q, %d) is %.40q, not %.40q", m.nodes(), key, n, got, few)
		}
	}
	owner, ok := r.Owner(key)
	if ok != (len(want) > 0) || !ok && owner != "" || ok && owner != want[0] {
		t.Fatalf("nodes %.40q: Owner(%.40q) is %.40q, %v, not of %.40q", m.nodes(), key, owner, ok, want)
	}
}

// named is the first n of n1, n2, ..
func named(n int) []string {
	var out []string
	for i := range n {
		out = append(out, fmt.Sprintf("n%d", i+1))
	}
	return out
}

// twins are nodes whose points are all the same ones: behind each text the hash has come to the same.
func twins() []string {
	return []string{"9ju297mmo8g29r6lc97d", "9ju297mmo8srb09xg7f3", "akd35o5003g29r6lc97d", "akd35o5003srb09xg7f3"}
}

// cousins are nodes that have eight points of sixteen in common: the point j of the one is the point 7-j of the other.
func cousins() []string { return []string{"5xg18dmc4x", "oiw9o50044"} }

// casts are lists of nodes, each with some edge.
func casts() [][]string {
	return [][]string{
		{}, {"a"}, {""}, {"a", "b"}, {"", "a"}, named(3), named(7), named(8),
		{"", "/", "a", "a/", "a/1", "a/1/0", "1", "/1"},
		{"", "\x00", "A", "Z", "a", "a\x00", "aa", "\xff"},
		{"e\u0301", "é", "\ufffd", "\xc3", "\xff\xff", "n10", "n2", strings.Repeat("x", 5000)},
		twins(), twins()[1:3], cousins(), append(twins(), cousins()...), append(cousins(), named(6)...), append(twins(), named(4)...),
	}
}

func shuffled(r *rand.Rand, nodes []string) []string {
	out := slices.Clone(nodes)
	r.Shuffle(len(out), func(i, j int) { out[i], out[j] = out[j], out[i] })
	return out
}
