// Package store keeps the entries of one tenant, within its quota.
package store

import (
	"strings"
	"sync"

	"cloakroom/api"
)

// What is answered to those who store.
const (
	Stored    = "STORED"
	NotStored = "NOT STORED"
	NotFound  = "NOT FOUND"
	Exists    = "EXISTS"
	TooLarge  = "TOO LARGE"
)

// Item is what is to be stored.
type Item struct {
	Key, Value string
	Flags      int
}

func (i Item) cost() int { return len(i.Key) + len(i.Value) + api.Overhead }

// Entry is an item that stands in a store.
type Entry struct {
	Item
	Mark int
	used int // when it was used last: what was used later has a greater number
}

// Store has the entries of one tenant. Whoever works on it locks it.
type Store struct {
	lock    sync.Mutex
	quota   int
	entries map[string]Entry
	cost    int // of all entries together
	mark    int // the one that was given last
	uses    int // how many there were
}

// New makes a store without entries.
func New(quota int) *Store { return &Store{quota: quota, entries: map[string]Entry{}} }

// Get uses the entry of a key, and answers it, or false if there is none.
func (s *Store) Get(key string) (Entry, bool) {
	s.lock.Lock()
	defer s.lock.Unlock()
	e, there := s.entries[key]
	if !there {
		return Entry{}, false
	}
	s.use(e)
	return e, true
}

// Set stores an item whether or not there is an entry of its key.
func (s *Store) Set(i Item) string {
	s.lock.Lock()
	defer s.lock.Unlock()
	return s.put(i)
}

// Add stores an item if there is no entry of its key.
func (s *Store) Add(i Item) string {
	s.lock.Lock()
	defer s.lock.Unlock()
	if _, there := s.entries[i.Key]; there {
		return NotStored
	}
	return s.put(i)
}

// Replace stores an item if there is an entry of its key.
func (s *Store) Replace(i Item) string {
	s.lock.Lock()
	defer s.lock.Unlock()
	if _, there := s.entries[i.Key]; !there {
		return NotStored
	}
	return s.put(i)
}

// Cas stores an item if there is an entry of its key with this mark.
func (s *Store) Cas(i Item, mark int) string {
	s.lock.Lock()
	defer s.lock.Unlock()
	e, there := s.entries[i.Key]
	if !there {
		return NotFound
	}
	if e.Mark != mark {
		return Exists
	}
	return s.put(i)
}

func (s *Store) put(i Item) string {
	if i.cost() > s.quota {
		return TooLarge
	}
	s.remove(i.Key)
	for s.cost+i.cost() > s.quota {
		s.remove(s.longestUnused())
	}
	// Both may be pieces of a longer text, which should not be kept with them.
	i.Key, i.Value = strings.Clone(i.Key), strings.Clone(i.Value)
	s.mark++
	s.cost += i.cost()
	s.use(Entry{Item: i, Mark: s.mark})
	return Stored
}

func (s *Store) use(e Entry) {
	s.uses++
	e.used = s.uses
	s.entries[e.Key] = e
}

func (s *Store) remove(key string) {
	if e, there := s.entries[key]; there {
		s.cost -= e.cost()
		delete(s.entries, key)
	}
}

// longestUnused answers the same key in whatever order the map is gone through, as no two entries were used at once.
func (s *Store) longestUnused() string {
	key, least := "", s.uses+1
	for k, e := range s.entries {
		if e.used < least {
			key, least = k, e.used
		}
	}
	return key
}
