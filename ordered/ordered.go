// Package ordered: values under keys that are kept in order.
package ordered

import (
	"iter"
	"slices"
)

// Store keeps at most one value for each key, in the order that its compare tells.
type Store[K, V any] struct {
	compare func(a, b K) int
	entries []entry[K, V]
}

type entry[K, V any] struct {
	key   K
	value V
}

// New makes an empty store; compare is below 0 if a is ordered ahead of b, and 0 if they are one key.
func New[K, V any](compare func(a, b K) int) *Store[K, V] {
	return &Store[K, V]{compare: compare}
}

// Len tells how many keys there are.
func (s *Store[K, V]) Len() int { return len(s.entries) }

// Get tells the value of a key, and whether there is one.
func (s *Store[K, V]) Get(key K) (V, bool) {
	at, found := s.find(key)
	if !found {
		var none V
		return none, false
	}
	return s.entries[at].value, true
}

// Last tells the value of the last key that is key, or ordered ahead of it, and whether there is one.
func (s *Store[K, V]) Last(key K) (V, bool) {
	at, found := s.find(key)
	if !found {
		at--
	}
	if at < 0 {
		var none V
		return none, false
	}
	return s.entries[at].value, true
}

// Put gives a key a value; it answers the one that the key had, and whether there was one.
func (s *Store[K, V]) Put(key K, value V) (V, bool) {
	at, found := s.find(key)
	if !found {
		s.entries = slices.Insert(s.entries, at, entry[K, V]{key, value})
		var none V
		return none, false
	}
	old := s.entries[at].value
	s.entries[at].value = value
	return old, true
}

// Remove takes a key away; it answers the value that the key had, and whether there was one.
func (s *Store[K, V]) Remove(key K) (V, bool) {
	at, found := s.find(key)
	if !found {
		var none V
		return none, false
	}
	old := s.entries[at].value
	s.entries = slices.Delete(s.entries, at, at+1)
	return old, true
}

// From goes through the keys that are key, or ordered behind it. The store may not be changed meanwhile: the
// entries would slide away under it.
func (s *Store[K, V]) From(key K) iter.Seq2[K, V] {
	return func(yield func(K, V) bool) {
		at, _ := s.find(key)
		for _, e := range s.entries[at:] {
			if !yield(e.key, e.value) {
				return
			}
		}
	}
}

// find tells the place of a key, or the place where it would stand.
func (s *Store[K, V]) find(key K) (int, bool) {
	return slices.BinarySearchFunc(s.entries, key, func(e entry[K, V], k K) int {
		return s.compare(e.key, k)
	})
}
