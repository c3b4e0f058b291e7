package ring_test

import (
	"fmt"
	"math"
	"math/rand"
	"slices"
	"strings"
	"sync"
	"testing"

	"meridian/api"
	"meridian/ring"
	"meridian/sum"
)

// The exact signatures: another one would not build.
var (
	_ func(...string) *ring.Ring              = ring.New
	_ func(*ring.Ring, string) (string, bool) = (*ring.Ring).Owner
	_ func(*ring.Ring, string, int) []string  = (*ring.Ring).Owners
	_ func(*ring.Ring) []string               = (*ring.Ring).Nodes
	_ func(*ring.Ring, string) *ring.Ring     = (*ring.Ring).With
	_ func(*ring.Ring, string) *ring.Ring     = (*ring.Ring).Without
)

// P10.1: the chapter's examples.
func TestExamples(t *testing.T) {
	if got := ring.New("b", "a", "b").Nodes(); !slices.Equal(got, []string{"a", "b"}) {
		t.Errorf("Nodes is %q", got)
	}
	if owner, ok := ring.New().Owner("k"); owner != "" || ok {
		t.Errorf("Owner is %q, %v", owner, ok)
	}
	if got := ring.New("a").Owners("k", 3); !slices.Equal(got, []string{"a"}) {
		t.Errorf("Owners is %q", got)
	}
}

// P10.1: owners that were worked out apart from the program and from its hash.
func TestKnownOwners(t *testing.T) {
	eight, three := ring.New(named(8)...), ring.New("", "a", "b")
	for _, c := range []struct {
		r           *ring.Ring
		key, owners string
	}{
		{eight, "", "n6 n8 n2 n3 n1 n5 n7 n4"},
		{eight, "k0", "n7 n1 n4 n2 n6 n3 n5 n8"},
		{eight, "k1", "n1 n3 n7 n4 n8 n2 n5 n6"},
		{eight, "k2", "n1 n6 n7 n8 n3 n2 n5 n4"},
		{eight, "k3", "n3 n5 n2 n4 n8 n1 n7 n6"},
		{eight, "k4", "n7 n6 n2 n8 n3 n1 n5 n4"},
		{eight, "k6", "n8 n4 n1 n7 n2 n6 n3 n5"},
		{eight, "k7", "n7 n3 n4 n8 n1 n2 n5 n6"},
		{eight, "n1/0", "n1 n2 n6 n3 n7 n8 n5 n4"},
		{eight, "n8/15", "n8 n5 n3 n1 n6 n7 n2 n4"},
		{eight, "key", "n2 n8 n6 n3 n1 n5 n7 n4"},
		{eight, "k28", "n6 n8 n2 n3 n1 n5 n7 n4"},  // greater than the greatest point
		{eight, "k487", "n6 n8 n2 n3 n1 n5 n7 n4"}, // less than the least
		{three, "", "b a "},
		{three, "a", " b a"},
		{three, "b", "b  a"},
		{three, "/0", " a b"},
		{three, "a/3", "a  b"},
		{three, "k2", "b a "},
	} {
		want := strings.Split(c.owners, " ")
		for n := range len(want) + 2 {
			if got := c.r.Owners(c.key, n); !slices.Equal(got, want[:min(n, len(want))]) {
				t.Errorf("Owners(%q, %d) is %q, not of %q", c.key, n, got, want)
			}
		}
		if owner, ok := c.r.Owner(c.key); owner != want[0] || !ok {
			t.Errorf("Owner(%q) is %q, %v, not %q", c.key, owner, ok, want[0])
		}
	}
}

// P10.1: New of no node, of one, of several and of 8, the empty text among them too.
func TestNew(t *testing.T) {
	for _, nodes := range casts() {
		same(t, ring.New(nodes...), modelOf(nodes...))
		same(t, ring.New(slices.Concat(nodes, nodes)...), modelOf(nodes...))
	}
	same(t, ring.New(nil...), modelOf())
	for n := range api.MaxNodes + 1 {
		if got := ring.New(named(n)...).Nodes(); !slices.Equal(got, named(n)) {
			t.Errorf("Nodes is %q, not %q", got, named(n))
		}
	}
}

// P10.1: of more than 8 different nodes the first 8 count, whatever their order and wherever the same one stands again.
func TestFirstEight(t *testing.T) {
	for _, c := range []struct{ nodes, want string }{
		{"a b c d e f g h i", "a b c d e f g h"},
		{"i h g f e d c b a", "b c d e f g h i"},
		{"i h g f e d c b i a", "b c d e f g h i"},
		{"i h g f e d c b a i", "b c d e f g h i"},
		{"a a a a a a a a b", "a b"},
		{"a b a c b d c e d f e g f h g i h", "a b c d e f g h"},
		{"b b c c d d e e f f g g h h i i a a", "b c d e f g h i"},
		{"b c d e b c d e f g h b c a i", "a b c d e f g h"},
		{"h g f e d c b h h h h h h h h a i", "a b c d e f g h"},
		{"h g f e d c b  a i", " b c d e f g h"}, // the empty text is the eighth
		{" h g f e d c b a i", " b c d e f g h"},
		{"h g f e d c b a  i", "a b c d e f g h"},
		{"h  g f e d  c b  a i", " b c d e f g h"},
	} {
		nodes, want := strings.Split(c.nodes, " "), strings.Split(c.want, " ")
		r := ring.New(nodes...)
		if got := r.Nodes(); !slices.Equal(got, want) {
			t.Errorf("New of %q has %q, not %q", nodes, got, want)
		}
		same(t, r, modelOf(want...))
	}
	many := []string{"z", "y"}
	for i := range 100000 {
		many = append(many, "z", "y", fmt.Sprintf("x%d", min(i/1000, 20)))
	}
	same(t, ring.New(many...), modelOf("x0", "x1", "x2", "x3", "x4", "x5", "y", "z"))
}

// P10.1: a key whose hash is a point belongs to that point's node, for each point; no node has a 17th point.
func TestKeyThatIsAPoint(t *testing.T) {
	for n := 1; n <= api.MaxNodes; n++ {
		nodes := named(n)
		r, m := ring.New(nodes...), modelOf(nodes...)
		others := 0
		for _, node := range nodes {
			for j := range api.Points + 8 {
				key := fmt.Sprintf("%s/%d", node, j)
				owner, ok := r.Owner(key)
				if j < api.Points && (owner != node || !ok) {
					t.Fatalf("%d nodes: Owner(%q) is %q, %v", n, key, owner, ok)
				}
				if owner != node {
					others++
				}
				sameOf(t, r, m, key)
			}
		}
		if n > 1 && others == 0 {
			t.Errorf("%d nodes: all have a 17th point", n)
		}
	}
}

// P10.1: a key whose hash is less than the least point belongs to that, and one whose hash is greater than the greatest to
// the least, too.
func TestKeysBesideAllPoints(t *testing.T) {
	for _, nodes := range [][]string{{"a"}, {""}, {"a", "b"}, named(3), named(8), twins(), append(cousins(), "a")} {
		r, m := ring.New(nodes...), modelOf(nodes...)
		least, greatest := m.span()
		first := ""
		for _, n := range slices.Backward(m.nodes()) {
			if slices.Contains(m[n], least) {
				first = n
			}
		}
		below, above := 0, 0
		for i := 0; below < 5 || above < 5; i++ {
			key := fmt.Sprintf("key %d", i)
			switch h := sum.Hash(key); {
			case h < least:
				below++
			case h > greatest:
				above++
			default:
				continue
			}
			if owner, ok := r.Owner(key); owner != first || !ok {
				t.Fatalf("nodes %q: Owner(%q) is %q, %v, not %q", nodes, key, owner, ok, first)
			}
			sameOf(t, r, m, key)
		}
	}
}

// P10.1: the owner is of the least point that isn't less, to the last bit: a key whose hash is a point and 1 belongs to the
// next one, and a key whose hash is 1 less to that point itself.
func TestKeysNextToAPoint(t *testing.T) {
	r, m := ring.New("a", "b"), modelOf("a", "b")
	for _, c := range []struct {
		point, key string
		more       uint64
		owner      string
	}{
		{"a/9", "i2i\xcc/\xd1\xae\xe6\x0d\x06:~h", 1, "b"},
		{"a/9", "tavJ\xdc\x18\x04p\x03U*\x07\x04", math.MaxUint64, "a"},
		{"a/14", "svl\xde}j\x005?\x03\x0c\x22)", 1, "b"},
		{"a/14", "lc4\x02^'\xf6e(\x01p8\x03", math.MaxUint64, "a"},
	} {
		if sum.Hash(c.key) != sum.Hash(c.point)+c.more {
			t.Fatalf("the hash of %q isn't next to %q", c.key, c.point)
		}
		if owner, ok := r.Owner(c.key); owner != c.owner || !ok {
			t.Errorf("Owner(%q), next to %q, is %q, %v", c.key, c.point, owner, ok)
		}
		sameOf(t, r, m, c.key)
	}
}

// P10.1: points and keys at 0 and at the greatest number, where nothing is less, and nothing greater.
func TestEnds(t *testing.T) {
	zero, greatest := "swi\x12.\x11&i\x0e\x17\xf2\xcd\x22", "b3w-\xfe+b7sK1\xc9\x17"
	ofZero := []string{"ygu\x1eLt\x0b4o9)\xa9f", "kqt\x06\x05n\xe1Y9-\x0b\x17\x09"}
	ofGreatest := []string{"93g&;\x07xJ\x1c;\x1c\x12\x13", "ken\x5c\x19U\x02\x198 \x0d\xd0\x09"}
	if sum.Hash(zero) != 0 || sum.Hash(greatest) != math.MaxUint64 {
		t.Fatal("the keys have other hashes")
	}
	for i, end := range []string{"/0", "/15"} {
		if sum.Hash(ofZero[i]+end) != 0 || sum.Hash(ofGreatest[i]+end) != math.MaxUint64 {
			t.Fatal("the nodes have other points")
		}
	}
	for _, nodes := range [][]string{nil, ofZero[:1], ofZero[1:], ofGreatest[:1], ofGreatest[1:], ofZero, ofGreatest} {
		nodes = append(slices.Clone(nodes), "a", "b")
		same(t, ring.New(nodes...), modelOf(nodes...))
		sameOf(t, ring.New(nodes...), modelOf(nodes...), zero)
		sameOf(t, ring.New(nodes...), modelOf(nodes...), greatest)
	}
	for i, n := range ofZero {
		r := ring.New("a", n, ofGreatest[i])
		if owner, _ := r.Owner(zero); owner != n {
			t.Errorf("Owner of the key at 0 is %q", owner)
		}
		if owner, _ := r.Owner(greatest); owner != ofGreatest[i] {
			t.Errorf("Owner of the key at the greatest number is %q", owner)
		}
		if owner, _ := r.Without(ofGreatest[i]).Owner(greatest); owner != n {
			t.Errorf("Owner of the key at the greatest number, without its node, is %q", owner)
		}
	}
}

// P10.1: of nodes with the same points the least has all the keys, and the others follow it, rising.
func TestSamePoints(t *testing.T) {
	for _, n := range twins() {
		for j := range api.Points {
			end := fmt.Sprintf("/%d", j)
			if sum.Hash(n+end) != sum.Hash(twins()[0]+end) {
				t.Fatalf("%q has another point %d", n, j)
			}
		}
	}
	for n := 1; n <= len(twins()); n++ {
		for skip := range len(twins()) - n + 1 {
			want := twins()[skip : skip+n]
			for _, nodes := range [][]string{want, append(slices.Clone(want[1:]), want[0])} {
				r := ring.New(nodes...)
				for _, k := range append(keys(), want[0]+"/0", want[n-1]+"/15") {
					if got := r.Owners(k, 9); !slices.Equal(got, want) {
						t.Fatalf("Owners(%q) is %q, not %q", k, got, want)
					}
				}
			}
		}
	}
	full := append(twins(), named(4)...)
	r := ring.New(full...)
	for _, k := range keys() {
		owners := r.Owners(k, 8)
		at := slices.Index(owners, twins()[0])
		if len(owners) != 8 || !slices.Equal(owners[at:min(at+4, 8)], twins()) {
			t.Fatalf("Owners(%q) is %q", k, owners)
		}
	}
}

// P10.1: where two nodes have some points in common, the lesser node has these, and each its own.
func TestSomePointsTheSame(t *testing.T) {
	less, more := cousins()[0], cousins()[1]
	for _, nodes := range [][]string{{less, more}, {more, less}, {more, "n1", less, "n2"}} {
		r := ring.New(nodes...)
		for j := range api.Points {
			one, other := fmt.Sprintf("%s/%d", less, j), fmt.Sprintf("%s/%d", more, j)
			if shared := sum.Hash(fmt.Sprintf("%s/%d", less, 7-j)) == sum.Hash(other); shared != (j < 8) {
				t.Fatalf("the point %d is shared: %v", j, shared)
			}
			if owner, _ := r.Owner(one); owner != less {
				t.Errorf("Owner(%q) is %q", one, owner)
			}
			if owner, _ := r.Owner(other); (owner == less) != (j < 8) {
				t.Errorf("Owner(%q) is %q", other, owner)
			}
			if two := r.Owners(other, 2); j < 8 && !slices.Equal(two, []string{less, more}) {
				t.Errorf("Owners(%q, 2) is %q", other, two)
			}
		}
	}
}

// P10.1: Nodes is rising by bytes, not by numbers, letters or length.
func TestNodesRise(t *testing.T) {
	r := rand.New(rand.NewSource(1))
	for _, want := range [][]string{
		{"n1", "n10", "n2", "n20", "n3"}, {"", "\x00", "A", "Z", "a", "a\x00", "aa", "b"}, {"/", "0", "a", "a/", "a/0", "a0", "~"},
		{"e\u0301", "z", "\xc3", "é", "\ufffd", "\xff", "\xff\xff"},
	} {
		for range 200 {
			if got := ring.New(shuffled(r, want)...).Nodes(); !slices.Equal(got, want) {
				t.Fatalf("Nodes is %q, not %q", got, want)
			}
		}
	}
}

// P10.1: Owners of none, of one, of as many as there are, and of more, of a ring of no nodes, of one and of several.
func TestOwners(t *testing.T) {
	for n := range api.MaxNodes + 1 {
		r := ring.New(named(n)...)
		for _, k := range keys() {
			all := r.Owners(k, n)
			sorted := slices.Sorted(slices.Values(all))
			if !slices.Equal(sorted, named(n)) {
				t.Fatalf("%d nodes: Owners(%q, %d) is %q", n, k, n, all)
			}
			for _, few := range numbers() {
				if got := r.Owners(k, few); !slices.Equal(got, all[:max(min(few, n), 0)]) {
					t.Fatalf("%d nodes: Owners(%q, %d) is %q, not of %q", n, k, few, got, all)
				}
			}
			if owner, ok := r.Owner(k); ok != (n > 0) || ok && owner != all[0] || !ok && owner != "" {
				t.Fatalf("%d nodes: Owner(%q) is %q, %v, not of %q", n, k, owner, ok, all)
			}
		}
	}
}

// P10.1: keys of a million bytes and nodes of as many.
func TestLongTexts(t *testing.T) {
	long := strings.Repeat("long", 250000)
	nodes := []string{long, long + "/", "a", long[1:]}
	sameOf(t, ring.New(nodes...), modelOf(nodes...), long)
	sameOf(t, ring.New(nodes...), modelOf(nodes...), long+"/15")
}

// ask lays a ring's points, where it is told to.
func ask(r *ring.Ring, asked bool) *ring.Ring {
	if asked {
		r.Owner("k0")
	}
	return r
}

// P10.1: With of a node that is there, of another one, and of another one where there are 8; the ring itself stays.
func TestWith(t *testing.T) {
	for _, nodes := range casts() {
		for _, asked := range []bool{false, true} {
			for _, node := range append([]string{"", "new", "a", "n8", "n9", "\xff\xff\xff"}, append(twins(), cousins()...)...) {
				r, m := ask(ring.New(nodes...), asked), modelOf(nodes...)
				w := r.With(node)
				if w == r {
					t.Fatalf("With(%q) is the ring itself", node)
				}
				for _, one := range []struct {
					*ring.Ring
					model
				}{{w, m.with(node)}, {r, m}, {w.With(node), m.with(node)}} {
					if got := one.Nodes(); !slices.Equal(got, one.nodes()) {
						t.Fatalf("With(%q): Nodes is %.40q, not %.40q", node, got, one.nodes())
					}
					for _, k := range []string{"", "k0", "k1", "a/3", node, node + "/7"} {
						sameOf(t, one.Ring, one.model, k)
					}
				}
			}
		}
	}
	eight := ring.New(named(8)...)
	if got := eight.With("a").Nodes(); !slices.Equal(got, named(8)) {
		t.Errorf("a ninth node: Nodes is %q", got)
	}
	if got := eight.With("n3").Nodes(); !slices.Equal(got, named(8)) {
		t.Errorf("a node that is there among 8: Nodes is %q", got)
	}
	same(t, eight.With("a"), modelOf(named(8)...))
}

// P10.1: Without of a node that is there, of the last one, and of one that isn't there; the ring itself stays.
func TestWithout(t *testing.T) {
	for _, nodes := range casts() {
		for _, asked := range []bool{false, true} {
			for _, node := range append([]string{"none", "", "n", "n11", "a/0"}, nodes...) {
				r, m := ask(ring.New(nodes...), asked), modelOf(nodes...)
				w := r.Without(node)
				if w == nil || w == r {
					t.Fatalf("Without(%.40q) is nil, or the ring itself", node)
				}
				for _, one := range []struct {
					*ring.Ring
					model
				}{{w, m.without(node)}, {r, m}, {w.Without(node), m.without(node)}} {
					if got := one.Nodes(); !slices.Equal(got, one.nodes()) {
						t.Fatalf("Without(%.40q): Nodes is %.40q, not %.40q", node, got, one.nodes())
					}
					for _, k := range []string{"", "k0", "k1", "a/3", node, node + "/7"} {
						sameOf(t, one.Ring, one.model, k)
					}
				}
			}
		}
	}
	last := ring.New("a").Without("a")
	same(t, last, modelOf())
	same(t, last.Without("a"), modelOf())
	same(t, last.With("b"), modelOf("b"))
	eight := ring.New(named(8)...)
	same(t, eight.Without("n8").With("a"), modelOf(append(named(7), "a")...))
	same(t, eight.With("a").Without("n8"), modelOf(named(7)...))
}

// P10.1: a ring stays as it is behind With and Without, in whatever order the rings' points are then asked for.
func TestRingStays(t *testing.T) {
	for _, asked := range []bool{false, true} {
		for turn := range 3 {
			r := ask(ring.New("b", "d", "c"), asked)
			rings := []*ring.Ring{r, r.With("a"), r.Without("c")}
			models := []model{modelOf("b", "c", "d"), modelOf("a", "b", "c", "d"), modelOf("b", "d")}
			for range 2 {
				for i := range rings {
					place := (i + turn) % len(rings)
					same(t, rings[place], models[place])
				}
			}
		}
	}
}

// P10.1: what is handed to New is neither changed nor kept, what lies behind its length neither.
func TestListIsTheCallers(t *testing.T) {
	for _, asked := range []bool{false, true} {
		for turn := range 20 {
			list, n := make([]string, 12), turn/2+1
			for i := range list {
				list[i] = fmt.Sprintf("n%d", 50+i) // rising, and falling
				if turn%2 == 0 {
					list[i] = fmt.Sprintf("n%d", 50-i)
				}
			}
			was := slices.Clone(list)
			r := ask(ring.New(list[:n]...), asked)
			w, o := ask(r.With("one"), asked), ask(r.Without(list[0]), asked)
			if !slices.Equal(list, was) {
				t.Fatalf("the list is %q behind the calls, not %q", list, was)
			}
			for i := range list {
				list[i] = "changed"
			}
			m := modelOf(was[:n]...)
			same(t, r, m)
			same(t, w, m.with("one"))
			same(t, o, m.without(was[0]))
			if list[n-1] != "changed" || list[n] != "changed" {
				t.Fatal("the list was written")
			}
		}
	}
}

// spoil writes over a slice, its spare room too.
func spoil(l []string) {
	for i := range l[:cap(l)] {
		l[:cap(l)][i] = "spoilt"
	}
	_ = append(l, "more")
}

// P10.1: the slices of Nodes and Owners are the caller's, spare room too.
func TestAnswersAreTheCallers(t *testing.T) {
	for _, nodes := range casts() {
		for _, asked := range []bool{false, true} {
			r, m := ask(ring.New(nodes...), asked), modelOf(nodes...)
			w, o := r.With("one"), r.Without("n1")
			for range 2 {
				one, other := r.Nodes(), r.Nodes()
				spoil(one)
				if !slices.Equal(other, m.nodes()) {
					t.Fatalf("another answer is %q", other)
				}
			}
			for _, k := range []string{"", "k0", "n1/3"} {
				for _, n := range []int{0, 1, 2, 8, 9} {
					one, other := r.Owners(k, n), r.Owners(k, n)
					spoil(one)
					if !slices.Equal(other, m.owners(k, n)) {
						t.Fatalf("another answer is %q", other)
					}
				}
			}
			same(t, r, m)
			spoil(r.Nodes())
			same(t, r, m)
			same(t, w, m.with("one"))
			same(t, o, m.without("n1"))
		}
	}
}

// P10.1: a nil ring has no nodes; With makes a ring of it.
func TestNil(t *testing.T) {
	var r *ring.Ring
	for range 2 {
		if got := r.Nodes(); len(got) != 0 {
			t.Errorf("Nodes is %q", got)
		}
		for _, k := range keys() {
			sameOf(t, r, modelOf(), k)
			same(t, r.With(k), modelOf(k))
			same(t, r.Without(k), modelOf())
		}
	}
	same(t, r.Without("a").With("a"), modelOf("a"))
}

// P10.1: the calls that only ask change nothing, and answer the same as often as they are made, in whatever order.
func TestAskingChangesNothing(t *testing.T) {
	for _, nodes := range casts() {
		r, m := ring.New(nodes...), modelOf(nodes...)
		for range 3 {
			same(t, r, m)
		}
		first := ring.New(nodes...)
		if got := first.Owners("k1", 8); !slices.Equal(got, m.owners("k1", 8)) {
			t.Fatalf("Owners, asked first, is %q", got)
		}
		if got := ring.New(nodes...).Owners("k1", 0); len(got) != 0 {
			t.Fatalf("Owners of none, asked first, is %q", got)
		}
	}
}

// P10.1: several that ask first, at once, have the same answers.
func TestAskedAtOnce(t *testing.T) {
	nodes := append(twins(), named(4)...)
	m := modelOf(nodes...)
	for range 50 {
		r := ring.New(nodes...)
		got := make([][]string, 8)
		var all sync.WaitGroup
		for i := range got {
			all.Go(func() { got[i] = r.Owners("k5", i+1) })
		}
		all.Wait()
		for i, g := range got {
			if !slices.Equal(g, m.owners("k5", i+1)) {
				t.Fatalf("Owners of %d is %q", i+1, g)
			}
		}
	}
}

// P10.1: two rings have nothing of each other.
func TestTwoRings(t *testing.T) {
	p, q := ring.New("a", "b"), ring.New("a", "b")
	if p == q || ring.New() == ring.New() {
		t.Error("the same ring is answered twice")
	}
	p = p.With("c")
	same(t, q, modelOf("a", "b"))
	same(t, p, modelOf("a", "b", "c"))
	same(t, ring.New("x"), modelOf("x"))
	same(t, q, modelOf("a", "b"))
}

// each calls f with every order of a list.
func each(list []string, f func([]string)) {
	var place func(int)
	place = func(n int) {
		if n == len(list) {
			f(slices.Clone(list))
			return
		}
		for i := n; i < len(list); i++ {
			list[n], list[i] = list[i], list[n]
			place(n + 1)
			list[n], list[i] = list[i], list[n]
		}
	}
	place(0)
}

// equal holds all answers of two rings to each other.
func equal(t *testing.T, r, q *ring.Ring) {
	t.Helper()
	if !slices.Equal(r.Nodes(), q.Nodes()) {
		t.Fatalf("Nodes is %.40q, and %.40q", r.Nodes(), q.Nodes())
	}
	for _, k := range keys() {
		if one, other := r.Owners(k, 9), q.Owners(k, 9); !slices.Equal(one, other) {
			t.Fatalf("nodes %.40q: Owners(%.40q) is %.40q, and %.40q", r.Nodes(), k, one, other)
		}
		one, ok := r.Owner(k)
		if other, also := q.Owner(k); one != other || ok != also {
			t.Fatalf("nodes %.40q: Owner(%.40q) is %.40q, and %.40q", r.Nodes(), k, one, other)
		}
	}
}

// P10.2: every order of a few nodes, and orders by chance of 8, make no difference, whether named in New or by With.
func TestOrderMakesNoDifference(t *testing.T) {
	r := rand.New(rand.NewSource(2))
	for _, nodes := range casts() {
		want := ring.New(nodes...)
		check := func(nodes []string) {
			equal(t, ring.New(nodes...), want)
			equal(t, ring.New(append(nodes, nodes...)...), want)
			one := ring.New()
			for _, n := range nodes {
				one = one.With(n)
			}
			equal(t, one, want)
		}
		if len(nodes) <= 4 {
			each(slices.Clone(nodes), check)
			continue
		}
		for range 20 {
			check(shuffled(r, nodes))
		}
	}
}

// P10.2: nodes that came and went leave nothing, in whatever order.
func TestComeAndGo(t *testing.T) {
	r := rand.New(rand.NewSource(3))
	names := append(append([]string{"", "a", "b", "c"}, twins()...), cousins()...)
	for range 20 {
		one, m := ring.New(), modelOf()
		for range 60 {
			n := names[r.Intn(len(names))]
			if r.Intn(5) < 3 {
				one, m = one.With(n), m.with(n)
			} else {
				one, m = one.Without(n), m.without(n)
			}
			ask(one, r.Intn(2) == 0)
			if r.Intn(10) == 0 {
				equal(t, one, ring.New(shuffled(r, m.nodes())...))
				same(t, one, m)
			}
		}
	}
}

// manyKeys are enough that each node of a ring, but for those that have no point of their own, has some.
func manyKeys() []string {
	out := keys()
	for i := range 1500 {
		out = append(out, fmt.Sprintf("key%d", i))
	}
	return out
}

// P10.3, without the model: with one node more a key keeps its owner, or has the new one.
func TestOneNodeMore(t *testing.T) {
	many := manyKeys()
	for _, nodes := range casts() {
		r := ring.New(nodes...)
		for _, node := range append([]string{"", "new", "n1", "n9"}, append(twins(), cousins()...)...) {
			w, moved := r.With(node), 0
			for _, k := range many {
				was, had := r.Owner(k)
				is, has := w.Owner(k)
				if !has || is != node && (is != was || !had) {
					t.Fatalf("nodes %.40q: with %q %.40q went from %q to %q", nodes, node, k, was, is)
				}
				if !had || is != was {
					moved++
				}
				others := slices.DeleteFunc(w.Owners(k, 8), func(n string) bool { return n == node && !slices.Contains(nodes, node) })
				if !slices.Equal(others, r.Owners(k, 8)) {
					t.Fatalf("nodes %.40q: with %q the others of %.40q are %q", nodes, node, k, others)
				}
			}
			none := slices.Contains(nodes, node) || len(nodes) == 8
			if none && moved != 0 || len(nodes) == 0 && moved != len(many) {
				t.Errorf("nodes %.40q: with %q %d keys of %d moved", nodes, node, moved, len(many))
			}
			if node == "new" && !none && (moved == 0 || len(nodes) > 0 && moved == len(many)) {
				t.Errorf("nodes %.40q: with %q %d keys of %d moved", nodes, node, moved, len(many))
			}
		}
	}
}

// P10.3, without the model: without one node only its own keys have another owner, each the second one of its Owners.
func TestOneNodeFewer(t *testing.T) {
	many := manyKeys()
	for _, nodes := range casts() {
		r := ring.New(nodes...)
		for _, node := range append([]string{"none", "n9", "/"}, nodes...) {
			o, there := r.Without(node), slices.Contains(nodes, node)
			for _, k := range many {
				owners := r.Owners(k, math.MaxInt)
				is, has := o.Owner(k)
				want := slices.DeleteFunc(slices.Clone(owners), func(n string) bool { return n == node })
				if has != (len(want) > 0) || has && is != want[0] || !has && is != "" {
					t.Fatalf("nodes %.40q: without %.40q the owner of %.40q is %q, of %q", nodes, node, k, is, owners)
				}
				if there && len(owners) > 1 && owners[0] == node && is != owners[1] {
					t.Fatalf("nodes %.40q: without %.40q %.40q went to %q, not to %q", nodes, node, k, is, owners[1])
				}
				if got := o.Owners(k, 8); !slices.Equal(got, want) {
					t.Fatalf("nodes %.40q: without %.40q the owners of %.40q are %q, not %q", nodes, node, k, got, want)
				}
			}
		}
	}
}

// P10.1: of ordinary nodes each has its share of the keys, since each has all its points.
func TestShares(t *testing.T) {
	for n := 1; n <= api.MaxNodes; n++ {
		r, has := ring.New(named(n)...), map[string]int{}
		for i := range 4000 {
			owner, _ := r.Owner(fmt.Sprintf("key%d", i))
			has[owner]++
		}
		for _, node := range named(n) {
			if share := 4000 / n; has[node] < share/3 || has[node] > share*3 {
				t.Errorf("%d nodes: %s has %d of 4000 keys", n, node, has[node])
			}
		}
	}
}
