package lru

import (
	"fmt"
	"math/rand"
	"slices"
	"testing"
)

// checkRing goes round the ring both ways, and holds it to the map and to the sum: nothing is kept of what has gone.
func checkRing(t *testing.T, c *Cache[int]) {
	t.Helper()
	var down, up []*link[int]
	for l := c.end.older; l != c.end; l = l.older {
		down = append(down, l)
	}
	for l := c.end.newer; l != c.end; l = l.newer {
		up = append(up, l)
	}
	slices.Reverse(up)
	if !slices.Equal(down, up) || len(down) != len(c.links) {
		t.Fatalf("%d links down, %d up, %d in the map", len(down), len(up), len(c.links))
	}
	sum := 0
	for _, l := range down {
		if c.links[l.key] != l {
			t.Fatalf("the map has another link of %q", l.key)
		}
		sum += l.size
	}
	if sum != c.sizes || c.reserved < 0 || sum+c.reserved > c.room {
		t.Fatalf("%d in the ring, %d told, %d reserved of %d", sum, c.sizes, c.reserved, c.room)
	}
	if c.end.key != "" || c.end.size != 0 || c.end.value != 0 {
		t.Fatal("the end is a thing")
	}
}

// P6.1, P6.2: the ring is whole behind each call.
func TestRingStaysWhole(t *testing.T) {
	r := rand.New(rand.NewSource(1))
	for room := range 12 {
		c := New[int](room)
		checkRing(t, c)
		for i := range 2000 {
			key, n := fmt.Sprint(r.Intn(9)), r.Intn(room+3)-1
			switch r.Intn(12) {
			case 0, 1, 2, 3:
				c.Put(key, n, i)
			case 4, 5, 6:
				c.Get(key)
			case 7:
				c.Peek(key)
			case 8:
				c.Drop(key)
			case 9:
				c.Reserve(n)
			case 10:
				c.Release(n)
			case 11:
				if i%5 == 0 {
					c.Clear()
				}
			}
			checkRing(t, c)
		}
	}
}
