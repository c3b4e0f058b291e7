package lru

// link is a thing, beside the things that were used next later and next earlier.
type link[V any] struct {
	key          string
	size         int
	value        V
	newer, older *link[V]
}

// ring is things in the order of their last use.
type ring[V any] struct {
	// end is no thing: it stands between the last one and the latest, so that no link is ever without a neighbour.
	end   *link[V]
	links map[string]*link[V]
	sizes int
}

func newRing[V any]() ring[V] {
	end := &link[V]{}
	end.newer, end.older = end, end
	return ring[V]{end: end, links: map[string]*link[V]{}}
}

// last is the thing whose last use is the earliest; it is asked for only where there is a thing.
func (r *ring[V]) last() *link[V] { return r.end.newer }

// add is for a key that isn't there.
func (r *ring[V]) add(key string, size int, v V) {
	l := &link[V]{key: key, size: size, value: v}
	r.links[key] = l
	r.sizes += size
	r.lead(l)
}

// use makes a thing that is there the latest one.
func (r *ring[V]) use(l *link[V]) {
	l.leave()
	r.lead(l)
}

// remove is for a thing that is there.
func (r *ring[V]) remove(l *link[V]) {
	l.leave()
	delete(r.links, l.key)
	r.sizes -= l.size
}

// lead puts a link that stands nowhere ahead of all.
func (r *ring[V]) lead(l *link[V]) {
	l.newer, l.older = r.end, r.end.older
	l.newer.older = l
	l.older.newer = l
}

// leave joins a link's neighbours.
func (l *link[V]) leave() {
	l.newer.older = l.older
	l.older.newer = l.newer
}

// keys is from the latest thing on.
func (r *ring[V]) keys() []string {
	list := make([]string, 0, len(r.links))
	for l := r.end.older; l != r.end; l = l.older {
		list = append(list, l.key)
	}
	return list
}
