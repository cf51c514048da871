package bcache

// thing is what the cache has of one key. older was used last of those used ahead of it, newer first of those used behind it.
type thing[K comparable, V any] struct {
	key          K
	value        V
	dirty        bool
	pins         int
	older, newer *thing[K, V]
}

// list is all things in the order in which they were used.
type list[K comparable, V any] struct {
	oldest, newest *thing[K, V]
	count          int
}

// add puts a thing that is in no list to the end: it was used last.
func (l *list[K, V]) add(t *thing[K, V]) {
	t.older, t.newer = l.newest, nil
	if l.newest == nil {
		l.oldest = t
	} else {
		l.newest.newer = t
	}
	l.newest = t
	l.count++
}

// remove takes a thing out of it.
func (l *list[K, V]) remove(t *thing[K, V]) {
	if t.older == nil {
		l.oldest = t.newer
	} else {
		t.older.newer = t.newer
	}
	if t.newer == nil {
		l.newest = t.older
	} else {
		t.newer.older = t.older
	}
	l.count--
}

// use brings a thing of it to its end.
func (l *list[K, V]) use(t *thing[K, V]) {
	l.remove(t)
	l.add(t)
}

// first is the thing used longest ago of those of which ok holds; nil: of none.
func (l *list[K, V]) first(ok func(*thing[K, V]) bool) *thing[K, V] {
	t := l.oldest
	for t != nil && !ok(t) {
		t = t.newer
	}
	return t
}

// keys are those of the things of which ok holds, in order.
func (l *list[K, V]) keys(ok func(*thing[K, V]) bool) []K {
	var keys []K
	for t := l.oldest; t != nil; t = t.newer {
		if ok(t) {
			keys = append(keys, t.key)
		}
	}
	return keys
}
