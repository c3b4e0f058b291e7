package sorted

import (
	"fmt"
	"math/rand"
	"testing"
)

// looks is how many keys a search for a text looks at, counted along the tree, and whether it ends at the text itself.
func looks(n *node[int], text string) (int, bool) {
	count := 0
	for n != nil {
		count++
		switch {
		case text == n.key:
			return count, true
		case text < n.key:
			n = n.left
		default:
			n = n.right
		}
	}
	return count, false
}

// deepest is the longest way down, by going all of them; it fails where two sides differ by more than 1, on which the
// bound for whatever comes later rests.
func deepest(t *testing.T, n *node[int]) int {
	if n == nil {
		return 0
	}
	left, right := deepest(t, n.left), deepest(t, n.right)
	if left > right+1 || right > left+1 {
		t.Fatalf("beside %q stand depths of %d and %d", n.key, left, right)
	}
	return 1 + max(left, right)
}

// P5.3: Depth is what the longest search comes to, no more and no less, and no search for a key or for another text
// goes beyond.
func TestDepthIsTheLongestSearch(t *testing.T) {
	r := rand.New(rand.NewSource(3))
	m := New[int]()
	for step := range 4000 {
		k := fmt.Sprint(r.Intn(600))
		if r.Intn(5) < 2+step/1000%2 {
			m.Del(k)
		} else {
			m.Set(k, step)
		}
		if longest := deepest(t, m.root); m.Depth() != longest {
			t.Fatalf("step %d: Depth is %d, the longest way is %d", step, m.Depth(), longest)
		}
		if step%100 != 0 {
			continue
		}
		for i := range 600 {
			for _, text := range []string{fmt.Sprint(i), fmt.Sprint(i, "+")} {
				count, there := looks(m.root, text)
				if count > m.Depth() {
					t.Fatalf("step %d: the search for %q looks at %d keys, Depth is %d", step, text, count, m.Depth())
				}
				if _, ok := m.Get(text); ok != there {
					t.Fatalf("step %d: Get of %q is %v", step, text, ok)
				}
			}
		}
	}
}

// P5.1: a call that answers false leaves the very tree, and a change leaves that of a copy.
func TestTreesStay(t *testing.T) {
	m := New[int]()
	for i := range 100 {
		m.Set(fmt.Sprint(i), i)
	}
	root := m.root
	for _, text := range []string{"", "100", "5+", "a", "-1"} {
		if m.Del(text) || m.root != root {
			t.Errorf("Del of %q, which isn't there, made another tree", text)
		}
	}
	c := m.Copy()
	m.Set("7", 70)
	m.Del("8")
	if c.root != root || m.root == root {
		t.Error("a change of the one is a change of the other")
	}
}
