// Package store keeps the entries of one tenant, within its quota, each till it ends.
package store

import (
	"strconv"
	"strings"
	"sync"

	"cloakroom/api"
	"cloakroom/bounds"
)

// What is answered to those who work on a store.
const (
	Stored    = "STORED"
	NotStored = "NOT STORED"
	NotFound  = "NOT FOUND"
	Exists    = "EXISTS"
	TooLarge  = "TOO LARGE"
	Deleted   = "DELETED"
	NotNumber = "NOT NUMBER"
	Touched   = "TOUCHED"
)

// mostDigits is what a value may have that is taken for a number.
const mostDigits = 9

// Item is what is to be stored.
type Item struct {
	Key, Value string
	Flags      int
}

func (i Item) cost() int { return len(i.Key) + len(i.Value) + api.Overhead }

// Entry is an item that stands in a store.
type Entry struct {
	Item
	Mark int
	end  int // the time at which it ends; 0: it has no end
	used int // when it was used last: what was used later has a greater number
}

func (e Entry) endsBy(now int) bool { return e.end != 0 && e.end <= now }

// Stats are a store's numbers: what was done so far, and what is there.
type Stats struct {
	Gets, Hits, Stores, Evicted, Expired int
	Items, Bytes                         int
}

// Store has the entries of one tenant. Whoever works on it locks it.
type Store struct {
	lock    sync.Mutex
	quota   int
	entries map[string]Entry
	now     int // the time, in seconds
	cost    int // of all entries together
	mark    int // the one that was given last
	uses    int // how many there were
	gets    int // how many keys were asked for
	hits    int // how many of these had an entry
	evicted int
	expired int
}

// New makes a store without entries, at the time 0.
func New(quota int) *Store { return &Store{quota: quota, entries: map[string]Entry{}} }

// Get uses the entry of a key, and answers it, or false if there is none.
func (s *Store) Get(key string) (Entry, bool) {
	s.lock.Lock()
	defer s.lock.Unlock()
	s.gets++
	e, there := s.entries[key]
	if !there {
		return Entry{}, false
	}
	s.hits++
	s.use(e)
	return e, true
}

// Set stores an item whether or not there is an entry of its key.
func (s *Store) Set(i Item, life int) string {
	s.lock.Lock()
	defer s.lock.Unlock()
	return s.put(i, s.endOf(life))
}

// Add stores an item if there is no entry of its key.
func (s *Store) Add(i Item, life int) string {
	s.lock.Lock()
	defer s.lock.Unlock()
	if _, there := s.entries[i.Key]; there {
		return NotStored
	}
	return s.put(i, s.endOf(life))
}

// Replace stores an item if there is an entry of its key.
func (s *Store) Replace(i Item, life int) string {
	s.lock.Lock()
	defer s.lock.Unlock()
	if _, there := s.entries[i.Key]; !there {
		return NotStored
	}
	return s.put(i, s.endOf(life))
}

// Cas stores an item if there is an entry of its key with this mark.
func (s *Store) Cas(i Item, life, mark int) string {
	s.lock.Lock()
	defer s.lock.Unlock()
	e, there := s.entries[i.Key]
	if !there {
		return NotFound
	}
	if e.Mark != mark {
		return Exists
	}
	return s.put(i, s.endOf(life))
}

// Delete lets the entry of a key go.
func (s *Store) Delete(key string) string {
	s.lock.Lock()
	defer s.lock.Unlock()
	if _, there := s.entries[key]; !there {
		return NotFound
	}
	s.remove(key)
	return Deleted
}

// Incr adds n to the number that the value of a key is, stores the sum instead of it, and answers the sum.
func (s *Store) Incr(key string, n int) string {
	s.lock.Lock()
	defer s.lock.Unlock()
	e, there := s.entries[key]
	if !there {
		return NotFound
	}
	number, good := numberOf(e.Value)
	if !good {
		return NotNumber
	}
	sum := strconv.Itoa(number + n)
	if answer := s.put(Item{e.Key, sum, e.Flags}, e.end); answer != Stored {
		return answer
	}
	return sum
}

// Touch uses the entry of a key, and sets its end anew.
func (s *Store) Touch(key string, life int) string {
	s.lock.Lock()
	defer s.lock.Unlock()
	e, there := s.entries[key]
	if !there {
		return NotFound
	}
	e.end = s.endOf(life)
	s.use(e)
	return Touched
}

// ComeTo makes it this time now, and lets the entries go that have ended by then.
func (s *Store) ComeTo(now int) {
	s.lock.Lock()
	defer s.lock.Unlock()
	s.now = now
	for key, e := range s.entries {
		if e.endsBy(now) {
			s.remove(key)
			s.expired++
		}
	}
}

// Stats answers the numbers, and uses nothing.
func (s *Store) Stats() Stats {
	s.lock.Lock()
	defer s.lock.Unlock()
	return Stats{
		Gets:    s.gets,
		Hits:    s.hits,
		Stores:  s.mark, // whatever was stored took the next mark
		Evicted: s.evicted,
		Expired: s.expired,
		Items:   len(s.entries),
		Bytes:   s.cost,
	}
}

// endOf answers the time at which a life ends that begins now.
func (s *Store) endOf(life int) int {
	if life == 0 {
		return 0
	}
	return s.now + life
}

// numberOf allows a value what no word may have: a 0 at its beginning.
func numberOf(value string) (int, bool) {
	if !bounds.Digits(value, mostDigits) {
		return 0, false
	}
	n, err := strconv.Atoi(value)
	return n, err == nil
}

func (s *Store) put(i Item, end int) string {
	if i.cost() > s.quota {
		return TooLarge
	}
	s.remove(i.Key)
	for s.cost+i.cost() > s.quota {
		s.remove(s.longestUnused())
		s.evicted++
	}
	// Both may be pieces of a longer text, which should not be kept with them.
	i.Key, i.Value = strings.Clone(i.Key), strings.Clone(i.Value)
	s.mark++
	s.cost += i.cost()
	s.use(Entry{Item: i, Mark: s.mark, end: end})
	return Stored
}

func (s *Store) use(e Entry) {
	s.uses++
	e.used = s.uses
	s.entries[e.Key] = e
}

func (s *Store) remove(key string) {
	if e, there := s.entries[key]; there {
		s.cost -= e.cost()
		delete(s.entries, key)
	}
}

// longestUnused answers the same key in whatever order the map is gone through, as no two entries were used at once.
func (s *Store) longestUnused() string {
	key, least := "", s.uses+1
	for k, e := range s.entries {
		if e.used < least {
			key, least = k, e.used
		}
	}
	return key
}
