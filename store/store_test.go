package store

import (
	"strconv"
	"strings"
	"sync"
	"testing"
)

func item(key, value string) Item { return Item{Key: key, Value: value} }

func want(t *testing.T, what, got, want string) {
	t.Helper()
	if got != want {
		t.Errorf("%s is answered %q, want %q", what, got, want)
	}
}

// wantKeys looks which of the keys a to f are there, without using them.
func wantKeys(t *testing.T, s *Store, want string) {
	t.Helper()
	got := ""
	for _, key := range strings.Split("abcdef", "") {
		if _, there := s.entries[key]; there {
			got += key
		}
	}
	if got != want {
		t.Errorf("the keys are %q, want %q", got, want)
	}
}

// wantCost goes by the entries themselves.
func wantCost(t *testing.T, s *Store) {
	t.Helper()
	sum := 0
	for key, e := range s.entries {
		if key != e.Key {
			t.Errorf("under %q stands the entry of %q", key, e.Key)
		}
		sum += len(key) + len(e.Value) + 16
	}
	if sum != s.cost || sum > s.quota {
		t.Errorf("the entries cost %d, counted as %d, of %d", sum, s.cost, s.quota)
	}
}

func TestAnEntryThatJustFits(t *testing.T) {
	for _, size := range []int{0, 1, 100} {
		value := strings.Repeat("v", size)
		for quota := 17 + size; quota < 20+size; quota++ {
			want(t, "one that fits", New(quota).Set(item("k", value)), Stored)
		}
		s := New(16 + size)
		want(t, "one that costs a byte too much", s.Set(item("k", value)), TooLarge)
		want(t, "one that costs a byte too much", s.Add(item("k", value)), TooLarge)
		wantCost(t, s)
	}
	want(t, "a quota of 1", New(1).Set(item("k", "")), TooLarge)
}

func TestTooLargeChangesNothing(t *testing.T) {
	s := New(40)
	s.Set(item("a", "1"))
	s.Set(item("b", "2"))
	large := strings.Repeat("v", 24)
	want(t, "set", s.Set(item("a", large)), TooLarge)
	want(t, "replace", s.Replace(item("a", large)), TooLarge)
	want(t, "cas", s.Cas(item("a", large), 1), TooLarge)
	want(t, "add", s.Add(item("c", large)), TooLarge)
	wantKeys(t, s, "ab")
	want(t, "the next one", s.Set(item("c", "3")), Stored)
	wantKeys(t, s, "bc")
	if e, there := s.Get("c"); e.Mark != 3 || !there {
		t.Errorf("the mark of the third entry is %d", e.Mark)
	}
	wantCost(t, s)
}

func TestWhatAStoreAsksForFirst(t *testing.T) {
	s, large := New(40), strings.Repeat("v", 24)
	want(t, "replace of none", s.Replace(item("a", large)), NotStored)
	want(t, "cas of none", s.Cas(item("a", large), 1), NotFound)
	s.Set(item("a", "1"))
	want(t, "add of one that is there", s.Add(item("a", large)), NotStored)
	want(t, "cas with another mark", s.Cas(item("a", large), 2), Exists)
	wantCost(t, s)
}

func TestTheOldEntryGoesAhead(t *testing.T) {
	s := New(60)
	for _, key := range []string{"a", "b", "c"} {
		s.Set(item(key, "123"))
	}
	want(t, "the same size again", s.Set(item("a", "456")), Stored)
	wantKeys(t, s, "abc")
	want(t, "a smaller one", s.Set(item("b", "")), Stored)
	wantKeys(t, s, "abc")
	want(t, "the rest of the room", s.Set(item("b", "123")), Stored)
	wantKeys(t, s, "abc")
	want(t, "one byte more", s.Set(item("b", "1234")), Stored)
	wantKeys(t, s, "ab")
	wantCost(t, s)
}

func TestThoseNotUsedForLongestAreEvicted(t *testing.T) {
	s := New(100)
	for _, key := range []string{"a", "b", "c", "d", "e"} {
		s.Set(item(key, "123"))
	}
	s.Get("a")
	s.Set(item("f", "123"))
	wantKeys(t, s, "acdef")
	s.Set(item("c", "321"))
	s.Set(item("b", "123"))
	wantKeys(t, s, "abcef")
	// What did not store did not use.
	s.Add(item("e", "1"))
	s.Cas(item("e", "1"), 99)
	s.Set(item("d", "123"))
	wantKeys(t, s, "abcdf")
	// Several go for one, and no more than must.
	s.Get("f")
	s.Set(item("e", strings.Repeat("v", 23)))
	wantKeys(t, s, "bdef")
	s.Set(item("a", strings.Repeat("v", 83)))
	wantKeys(t, s, "a")
	wantCost(t, s)
}

func TestNoUseOfAKeyWithoutEntry(t *testing.T) {
	s := New(100)
	if e, there := s.Get("a"); there || e != (Entry{}) || len(s.entries) != 0 {
		t.Errorf("Get of none = %+v, %v, and there are %d entries", e, there, len(s.entries))
	}
}

// For a run with the race detector; without it this shows only that nothing is lost.
func TestManyWorkOnOneStore(t *testing.T) {
	s := New(2000)
	var all sync.WaitGroup
	for w := range 8 {
		all.Go(func() {
			for n := range 200 {
				key := strconv.Itoa(n % 20)
				s.Set(item(key, strconv.Itoa(w)))
				s.Get(key)
				s.Add(item(key, ""))
				s.Replace(item(key, "x"))
				s.Cas(item(key, "y"), n)
			}
		})
	}
	all.Wait()
	if s.mark < 8*200*2 || len(s.entries) != 20 {
		t.Errorf("the last mark is %d, and there are %d entries", s.mark, len(s.entries))
	}
	wantCost(t, s)
}
