// Package shard spreads keys over several maps, and tells them in one rising order all the same.
package shard

import (
	"iter"
	"maps"
	"slices"
)

// Map holds values by keys, spread over its shards.
type Map[V any] struct {
	shards []map[string]V
	count  int
}

// New makes an empty map with so many shards, at least one.
func New[V any](shards int) *Map[V] {
	m := &Map[V]{shards: make([]map[string]V, max(shards, 1))}
	for i := range m.shards {
		m.shards[i] = map[string]V{}
	}
	return m
}

// Len is how many keys the shards have together.
func (m *Map[V]) Len() int { return m.count }

// Get is the value of a key; false: it is not there.
func (m *Map[V]) Get(key string) (V, bool) {
	value, ok := m.shardOf(key)[key]
	return value, ok
}

// Put sets the value of a key.
func (m *Map[V]) Put(key string, value V) {
	shard := m.shardOf(key)
	before := len(shard)
	shard[key] = value
	m.count += len(shard) - before
}

// shardOf is the shard in which a key lies.
func (m *Map[V]) shardOf(key string) map[string]V {
	return m.shards[hash(key)%uint32(len(m.shards))]
}

// hash is FNV-1a: it hangs on the key alone, so that a key is found again where it was put.
func hash(key string) uint32 {
	h := uint32(2166136261)
	for i := range len(key) {
		h = (h ^ uint32(key[i])) * 16777619
	}
	return h
}

// Rising goes through all shards side by side, each time on at the one that stands at the least key.
func (m *Map[V]) Rising() iter.Seq2[string, V] {
	return func(yield func(string, V) bool) {
		rests := m.sortedKeys()
		for at := leastHead(rests); at >= 0; at = leastHead(rests) {
			key := rests[at][0]
			rests[at] = rests[at][1:]
			if !yield(key, m.shards[at][key]) {
				return
			}
		}
	}
}

// sortedKeys are the keys of each shard, rising.
func (m *Map[V]) sortedKeys() [][]string {
	lists := make([][]string, len(m.shards))
	for i, shard := range m.shards {
		lists[i] = slices.Sorted(maps.Keys(shard))
	}
	return lists
}

// leastHead is the place of the list whose first key is the least; -1: all lists are empty.
func leastHead(lists [][]string) int {
	at := -1
	for i, list := range lists {
		if len(list) > 0 && (at < 0 || list[0] < lists[at][0]) {
			at = i
		}
	}
	return at
}
