package sorted_test

import (
	"fmt"
	"iter"
	"math/rand"
	"slices"
	"testing"

	"meridian/sorted"
)

// The exact signatures: another one would not build.
var (
	_ func() *sorted.Map[int]                            = sorted.New[int]
	_ func(*sorted.Map[int], string, int) bool           = (*sorted.Map[int]).Set
	_ func(*sorted.Map[int], string) (int, bool)         = (*sorted.Map[int]).Get
	_ func(*sorted.Map[int], string) bool                = (*sorted.Map[int]).Del
	_ func(*sorted.Map[int], string) (string, int, bool) = (*sorted.Map[int]).From
	_ func(*sorted.Map[int]) int                         = (*sorted.Map[int]).Len
	_ func(*sorted.Map[int]) iter.Seq2[string, int]      = (*sorted.Map[int]).All
	_ func(*sorted.Map[int]) *sorted.Map[int]            = (*sorted.Map[int]).Copy
	_ func(*sorted.Map[int]) int                         = (*sorted.Map[int]).Depth
)

// P5.1: the chapter's example.
func TestExample(t *testing.T) {
	m := sorted.New[int]()
	if !m.Set("b", 1) || !m.Set("a", 2) {
		t.Error("Set of a new key is false")
	}
	if k, v, ok := m.From(""); k != "a" || v != 2 || !ok {
		t.Errorf(`From("") is %q, %d, %v`, k, v, ok)
	}
	if k, v, ok := m.From("aa"); k != "b" || v != 1 || !ok {
		t.Errorf(`From("aa") is %q, %d, %v`, k, v, ok)
	}
	if k, v, ok := m.From("c"); k != "" || v != 0 || ok {
		t.Errorf(`From("c") is %q, %d, %v`, k, v, ok)
	}
	if m.Len() != 2 || m.Depth() > 4 {
		t.Errorf("Len is %d, Depth is %d", m.Len(), m.Depth())
	}
}

// P5.1, P5.3
func TestWithoutKeys(t *testing.T) {
	if sorted.New[int]() == sorted.New[int]() {
		t.Error("New answers the same map twice")
	}
	m := sorted.New[int]()
	check(t, m, model{}, around(oddKeys())...)
	for _, k := range oddKeys() {
		if m.Del(k) {
			t.Errorf("Del of %q is true", k)
		}
	}
	if m.Depth() != 0 {
		t.Errorf("Depth is %d", m.Depth())
	}
	check(t, m, model{})
}

// P5.1: each key alone, the empty one too, which is a key as any other.
func TestOneKey(t *testing.T) {
	for _, k := range oddKeys() {
		m := sorted.New[int]()
		if !m.Set(k, 7) {
			t.Errorf("Set of %q is false", k)
		}
		check(t, m, model{k: 7}, around(oddKeys())...)
		if m.Depth() != 1 {
			t.Errorf("Depth is %d", m.Depth())
		}
		if m.Set(k, 8) {
			t.Errorf("the second Set of %q is true", k)
		}
		check(t, m, model{k: 8})
		if m.Del(k + "\x00") {
			t.Errorf("Del of what goes on from %q is true", k)
		}
		check(t, m, model{k: 8})
		if !m.Del(k) || m.Del(k) {
			t.Errorf("Del of %q isn't true once", k)
		}
		check(t, m, model{}, around(oddKeys())...)
		if !m.Set(k, 9) {
			t.Errorf("Set of %q behind its Del is false", k)
		}
		check(t, m, model{k: 9})
	}
}

// P5.1, P5.2: keys at the edges of the order, set and deleted in some orders.
func TestOddKeys(t *testing.T) {
	keys := oddKeys()
	slices.SortFunc(keys, ahead)
	texts := around(keys)
	for how, sets := range orders(keys) {
		for _, dels := range orders(keys) {
			m, d := sorted.New[int](), model{}
			for i, k := range sets {
				if !m.Set(k, i) || m.Set(k, i+1) {
					t.Fatalf("%s: Set of %q isn't true once", how, k)
				}
				d[k] = i + 1
				check(t, m, d)
			}
			check(t, m, d, texts...)
			for _, k := range dels {
				if !m.Del(k) || m.Del(k) {
					t.Fatalf("%s: Del of %q isn't true once", how, k)
				}
				delete(d, k)
				check(t, m, d)
			}
			check(t, m, d, texts...)
		}
	}
}

// P5.1, P5.2, P5.3: up to six keys, set in every order, and deleted in every order out of each map that came of it (of
// six keys, in every twelfth).
func TestEachOrderOfFewKeys(t *testing.T) {
	for n := 1; n <= 6; n++ {
		keys, dels, count := numbered(n), [][]string{}, 0
		eachOrder(keys, func(list []string) {
			if n < 6 || count%12 == 0 {
				dels = append(dels, slices.Clone(list))
			}
			count++
		})
		eachOrder(keys, func(sets []string) {
			whole, has := filled(sets)
			for _, list := range dels {
				m, d := whole.Copy(), has.copy()
				for _, k := range list {
					if !m.Del(k) {
						t.Fatalf("set %q, deleted %q: Del of %q is false", sets, list, k)
					}
					delete(d, k)
					check(t, m, d, k)
				}
			}
			check(t, whole, has)
		})
	}
}

// P5.1, P5.2, P5.3: Sets, Dels and Copies by chance, over few keys and over many.
func TestByChance(t *testing.T) {
	for _, many := range []int{3, 20, 300, 5000} {
		r := rand.New(rand.NewSource(int64(many)))
		keys := append(oddKeys(), numbered(many)...)
		if many == 3 {
			keys = keys[:3]
		}
		m, d := sorted.New[int](), model{}
		for step := range 6000 {
			k := keys[r.Intn(len(keys))]
			_, was := d[k]
			// Stretches in which more is set, and in which more is deleted.
			if r.Intn(10) < 3+4*(step/1000%2) {
				if m.Del(k) != was {
					t.Fatalf("step %d: Del of %q isn't %v", step, k, was)
				}
				delete(d, k)
			} else {
				if m.Set(k, step) == was {
					t.Fatalf("step %d: Set of %q is %v", step, k, was)
				}
				d[k] = step
			}
			want, there := d[k]
			if v, ok := m.Get(k); v != want || ok != there {
				t.Fatalf("step %d: Get of %q is %d, %v", step, k, v, ok)
			}
			if m.Len() != len(d) {
				t.Fatalf("step %d: Len is %d, not %d", step, m.Len(), len(d))
			}
			checkDepth(t, m)
			if step%300 == 0 {
				check(t, m, d, around([]string{k})...)
			}
			if step%1000 == 0 {
				m = m.Copy()
			}
		}
		check(t, m, d, around(oddKeys())...)
	}
}

// P5.1: what lies between keys, below the least and above the greatest.
func TestFromBetween(t *testing.T) {
	m, _ := filled([]string{"d", "b", "f"})
	for text, want := range map[string]string{"": "b", "a": "b", "az": "b", "b": "b", "b\x00": "d", "c": "d", "d": "d", "d0": "f", "e\xff": "f", "f": "f"} {
		if k, v, ok := m.From(text); k != want || !ok {
			t.Errorf("From of %q is %q, %d, %v", text, k, v, ok)
		}
	}
	for _, text := range []string{"f\x00", "g", "\xff"} {
		if k, v, ok := m.From(text); k != "" || v != 0 || ok {
			t.Errorf("From of %q is %q, %d, %v", text, k, v, ok)
		}
	}
	for _, text := range []string{"", "a", "c", "b\x00", "g"} {
		if v, ok := m.Get(text); v != 0 || ok {
			t.Errorf("Get of %q is %d, %v", text, v, ok)
		}
	}
}

// P5.2: From leads through all keys, as All does.
func TestFromGoesThroughAll(t *testing.T) {
	for how, keys := range orders(numbered(500)) {
		m, d := filled(keys)
		var list []pair
		for k, v, ok := m.From(""); ok; k, v, ok = m.From(k + "\x00") {
			list = append(list, pair{k, v})
		}
		if !slices.Equal(list, d.pairs()) {
			t.Errorf("%s: From leads through %s", how, short(list))
		}
	}
}

// P5.1: the zero value, as a value that is set, is there.
func TestZeroValues(t *testing.T) {
	m := sorted.New[int]()
	m.Set("", 0)
	if v, ok := m.Get(""); v != 0 || !ok {
		t.Errorf("Get is %d, %v", v, ok)
	}
	if k, v, ok := m.From(""); k != "" || v != 0 || !ok {
		t.Errorf("From is %q, %d, %v", k, v, ok)
	}
	if !slices.Equal(told(m), []pair{{"", 0}}) {
		t.Errorf("All is %v", told(m))
	}
}

// P5.1: values of whatever type, a map among them.
func TestValuesOfOtherTypes(t *testing.T) {
	outer := sorted.New[*sorted.Map[[]string]]()
	inner := sorted.New[[]string]()
	inner.Set("x", []string{"1", "2"})
	outer.Set("in", inner)
	outer.Set("nil", nil)
	got, ok := outer.Get("in")
	if !ok || got != inner {
		t.Fatal("another map than the one that was set")
	}
	if v, ok := got.Get("x"); !ok || !slices.Equal(v, []string{"1", "2"}) {
		t.Errorf("Get is %q, %v", v, ok)
	}
	if v, ok := outer.Get("nil"); v != nil || !ok {
		t.Errorf("Get of a nil value is %v, %v", v, ok)
	}
	if v, ok := outer.Get("none"); v != nil || ok {
		t.Errorf("Get of no key is %v, %v", v, ok)
	}
}

// P5.2: left at each place, and gone through whole behind that.
func TestAllIsLeft(t *testing.T) {
	m, d := filled(numbered(40))
	pairs, all := d.pairs(), m.All()
	for stop := 1; stop <= len(pairs); stop++ {
		var list []pair
		for k, v := range all {
			list = append(list, pair{k, v})
			if len(list) == stop {
				break
			}
		}
		if !slices.Equal(list, pairs[:stop]) {
			t.Fatalf("left at %d: %s", stop, short(list))
		}
	}
	calls := 0
	all(func(string, int) bool { calls++; return false })
	if calls != 1 {
		t.Errorf("left at the first pair: told %d", calls)
	}
	check(t, m, d)
}

// P5.2: an iterator is gone through as often as one likes, within itself too, each time as the map is by then.
func TestAllTwice(t *testing.T) {
	m, d := sorted.New[int](), model{}
	all := m.All()
	for i, k := range orders(numbered(30))["mixed"] {
		for range 2 {
			var list []pair
			for k, v := range all {
				list = append(list, pair{k, v})
			}
			if !slices.Equal(list, d.pairs()) {
				t.Fatalf("with %d keys: %s", i, short(list))
			}
		}
		m.Set(k, i)
		d[k] = i
	}
	calls := 0
	for range all {
		for range all {
			calls++
		}
	}
	if calls != 900 {
		t.Errorf("within itself: told %d", calls)
	}
}

// P5.1, P5.2: what is there when going through begins is told, whatever is done to the map on the way.
func TestAllWhileChanged(t *testing.T) {
	keys := numbered(60)
	changes := map[string]func(*sorted.Map[int], int, string){
		"the key itself is deleted":  func(m *sorted.Map[int], i int, k string) { m.Del(k) },
		"the next key is deleted":    func(m *sorted.Map[int], i int, k string) { m.Del(fmt.Sprintf("k%06d", i+1)) },
		"the last key is deleted":    func(m *sorted.Map[int], i int, k string) { m.Del(fmt.Sprintf("k%06d", 59-i)) },
		"each key gets a new value":  func(m *sorted.Map[int], i int, k string) { m.Set(fmt.Sprintf("k%06d", 59-i), -1) },
		"keys are set behind it":     func(m *sorted.Map[int], i int, k string) { m.Set(k+"\x00", -1) },
		"keys are set ahead of it":   func(m *sorted.Map[int], i int, k string) { m.Set("a"+k, -1) },
		"all keys are deleted":       func(m *sorted.Map[int], i int, k string) { clearOut(m) },
		"all go, and others are set": func(m *sorted.Map[int], i int, k string) { clearOut(m); m.Set("z"+k, -1) },
	}
	for how, change := range changes {
		for _, order := range orders(keys) {
			m, d := filled(order)
			var list []pair
			for k, v := range m.All() {
				change(m, len(list), k)
				list = append(list, pair{k, v})
			}
			if !slices.Equal(list, d.pairs()) {
				t.Fatalf("%s: %s", how, short(list))
			}
			behind := model{}
			for k, v := range m.All() {
				behind[k] = v
			}
			check(t, m, behind, around(keys)...)
		}
	}
}

func clearOut(m *sorted.Map[int]) {
	for k, _, ok := m.From(""); ok; k, _, ok = m.From("") {
		m.Del(k)
	}
}

// P5.1: a change behind a call of All, but ahead of going through, is seen.
func TestAllBeginsLate(t *testing.T) {
	m, d := filled(numbered(10))
	all := m.All()
	m.Del("k000003")
	m.Set("k000004", 70)
	m.Set("new", 71)
	delete(d, "k000003")
	d["k000004"], d["new"] = 70, 71
	var list []pair
	for k, v := range all {
		list = append(list, pair{k, v})
	}
	if !slices.Equal(list, d.pairs()) {
		t.Errorf("All is %s", short(list))
	}
}

// P5.1
func TestCopyWithoutKeys(t *testing.T) {
	m := sorted.New[int]()
	c := m.Copy()
	if c == nil || c == m {
		t.Fatal("Copy answers nil or the map itself")
	}
	check(t, c, model{})
	c.Set("a", 1)
	check(t, m, model{}, "a")
	check(t, c, model{"a": 1})
	m.Set("b", 2)
	check(t, m, model{"b": 2}, "a")
	check(t, c, model{"a": 1}, "b")
	c.Del("a")
	check(t, c, model{})
	check(t, m, model{"b": 2})
}

// P5.1: Sets and Dels in the one and in the other, and in a copy of the copy.
func TestCopyWithManyKeys(t *testing.T) {
	keys := numbered(200)
	for _, order := range orders(keys) {
		m, d := filled(order)
		maps, has := []*sorted.Map[int]{m, m.Copy(), nil}, []model{d, d.copy(), nil}
		maps[2], has[2] = maps[1].Copy(), d.copy()
		all := []iter.Seq2[string, int]{maps[0].All(), maps[1].All(), maps[2].All()}
		r := rand.New(rand.NewSource(2))
		for step := range 900 {
			which, k := r.Intn(3), keys[r.Intn(len(keys))]
			switch r.Intn(3) {
			case 0:
				maps[which].Del(k)
				delete(has[which], k)
			case 1:
				maps[which].Set(k, 1000+step)
				has[which][k] = 1000 + step
			case 2:
				maps[which].Set(k+"+", 1000+step)
				has[which][k+"+"] = 1000 + step
			}
			if step%50 == 0 {
				for i := range maps {
					check(t, maps[i], has[i], keys...)
				}
			}
		}
		for i := range maps {
			check(t, maps[i], has[i], around(keys)...)
			var list []pair
			for k, v := range all[i] {
				list = append(list, pair{k, v})
			}
			if !slices.Equal(list, has[i].pairs()) {
				t.Fatalf("the map %d: All is %s", i, short(list))
			}
		}
	}
}

// P5.1: a copy stays, while all keys of the other go, and the other way round.
func TestCopyOutlastsTheOther(t *testing.T) {
	m, d := filled(numbered(100))
	c := m.Copy()
	clearOut(m)
	check(t, m, model{}, numbered(100)...)
	check(t, c, d)
	again := c.Copy()
	clearOut(c)
	check(t, c, model{})
	check(t, again, d)
}

// P5.3: behind each Set and each Del, in each of the orders.
func TestDepthInOrders(t *testing.T) {
	keys := numbered(1500)
	for _, sets := range orders(keys) {
		whole := sorted.New[int]()
		for i, k := range sets {
			whole.Set(k, i)
			checkDepth(t, whole)
		}
		for how, dels := range orders(keys) {
			m := whole.Copy()
			for _, k := range dels {
				if !m.Del(k) {
					t.Fatalf("%s: Del of %q is false", how, k)
				}
				checkDepth(t, m)
			}
			if m.Len() != 0 || m.Depth() != 0 {
				t.Fatalf("%s: in the end Len is %d, Depth is %d", how, m.Len(), m.Depth())
			}
		}
	}
}

// P5.3: keys that come and go at the ends, as those of a log do, and in one place.
func TestDepthOfAWindow(t *testing.T) {
	keys := numbered(6000)
	for _, wide := range []int{1, 2, 7, 64, 1000} {
		up, down := sorted.New[int](), sorted.New[int]()
		for i := range keys {
			up.Set(keys[i], i)
			down.Set(keys[len(keys)-1-i], i)
			if i >= wide {
				up.Del(keys[i-wide])
				down.Del(keys[len(keys)-1-i+wide])
			}
			checkDepth(t, up)
			checkDepth(t, down)
		}
		if up.Len() != wide || down.Len() != wide {
			t.Fatalf("Len is %d and %d, not %d", up.Len(), down.Len(), wide)
		}
	}
}

// P5.3: many keys.
func TestDepthOfManyKeys(t *testing.T) {
	for _, keys := range orders(numbered(100000)) {
		m := sorted.New[int]()
		for i, k := range keys {
			m.Set(k, i)
		}
		checkDepth(t, m)
		for i, k := range keys {
			if i%10 != 0 {
				m.Del(k)
			}
		}
		if m.Len() != 10000 {
			t.Fatalf("Len is %d", m.Len())
		}
		checkDepth(t, m)
	}
}

// P5.1: a nil map has no keys.
func TestNil(t *testing.T) {
	var m *sorted.Map[int]
	for _, k := range oddKeys() {
		if m.Set(k, 1) {
			t.Errorf("Set of %q is true", k)
		}
		if m.Del(k) {
			t.Errorf("Del of %q is true", k)
		}
		if v, ok := m.Get(k); v != 0 || ok {
			t.Errorf("Get of %q is %d, %v", k, v, ok)
		}
		if found, v, ok := m.From(k); found != "" || v != 0 || ok {
			t.Errorf("From of %q is %q, %d, %v", k, found, v, ok)
		}
	}
	if m.Len() != 0 || m.Depth() != 0 {
		t.Errorf("Len is %d, Depth is %d", m.Len(), m.Depth())
	}
	if m.Copy() != nil {
		t.Error("Copy isn't nil")
	}
	all := m.All()
	if all == nil {
		t.Fatal("All is nil")
	}
	for k, v := range all {
		t.Errorf("All tells %q, %d", k, v)
	}
}
