package ring

import (
	"slices"
	"testing"

	"meridian/api"
)

// Points are worked out when they are first asked for, and then stay the very same.
func TestLaidOnce(t *testing.T) {
	r := New("b", "a", "b")
	r.Nodes()
	w, o := r.With("c"), r.Without("a")
	for _, one := range []*Ring{r, w, o} {
		if one.points != nil {
			t.Fatal("points ahead of the first that asks")
		}
		one.Owners("k", 0)
		if len(one.points) != api.Points*len(one.nodes) || !slices.IsSortedFunc(one.points, order) {
			t.Fatalf("%d nodes, points: %v", len(one.nodes), one.points)
		}
	}
	first := &r.points[0]
	for _, k := range []string{"", "k", "a/0"} {
		r.Owner(k)
		r.Owners(k, 2)
		r.With("d").Owner(k)
		if first != &r.points[0] || len(r.points) != 2*api.Points {
			t.Fatal("points were worked out again")
		}
	}
}
