package shard

import (
	"maps"
	"slices"
	"strconv"
	"testing"
)

func TestRising(t *testing.T) {
	for shards := -1; shards <= 20; shards++ {
		m, want := New[int](shards), map[string]int{}
		for i := range 100 {
			key := strconv.Itoa(i * 37 % 100)
			m.Put(key, i)
			want[key] = i
		}
		var keys []string
		for key, value := range m.Rising() {
			keys = append(keys, key)
			if value != want[key] {
				t.Errorf("with %d shards %q has %d, want %d", shards, key, value, want[key])
			}
		}
		if sorted := slices.Sorted(maps.Keys(want)); !slices.Equal(keys, sorted) {
			t.Errorf("with %d shards: %q, want %q", shards, keys, sorted)
		}
	}
}

func TestRisingStopsEarly(t *testing.T) {
	m := New[int](4)
	for i := range 10 {
		m.Put(strconv.Itoa(i), i)
	}
	for stop := range 10 {
		seen := 0
		for _, value := range m.Rising() {
			if value == stop {
				break
			}
			seen++
		}
		if seen != stop {
			t.Errorf("%d came ahead of %d", seen, stop)
		}
	}
}

func TestRisingEmpty(t *testing.T) {
	for key := range New[int](3).Rising() {
		t.Errorf("%q is in an empty map", key)
	}
}

func TestPutAndGet(t *testing.T) {
	m := New[string](3)
	for _, c := range []struct {
		key, value string
		count      int
	}{{"a", "1", 1}, {"b", "2", 2}, {"a", "3", 2}, {"", "4", 3}, {"", "", 3}} {
		m.Put(c.key, c.value)
		if got, ok := m.Get(c.key); !ok || got != c.value || m.Len() != c.count {
			t.Errorf("%q has %q, %t, of %d", c.key, got, ok, m.Len())
		}
	}
	if got, ok := m.Get("c"); ok || got != "" {
		t.Errorf("c has %q, %t", got, ok)
	}
}

// TestSpread: each shard has its share of many keys.
func TestSpread(t *testing.T) {
	m := New[int](16)
	for i := range 1000 {
		m.Put("name"+strconv.Itoa(i), i)
	}
	for i, keys := range m.shards {
		if len(keys) < 20 || len(keys) > 200 {
			t.Errorf("shard %d has %d keys of 1000", i, len(keys))
		}
	}
}
