package store

import (
	"strconv"
	"strings"
	"sync"
	"testing"
)

func item(key, value string) Item { return Item{Key: key, Value: value} }

func want(t *testing.T, what, got, want string) {
	t.Helper()
	if got != want {
		t.Errorf("%s is answered %q, want %q", what, got, want)
	}
}

// wantKeys looks which of the keys a to f are there, without using them.
func wantKeys(t *testing.T, s *Store, want string) {
	t.Helper()
	got := ""
	for _, key := range strings.Split("abcdef", "") {
		if _, there := s.entries[key]; there {
			got += key
		}
	}
	if got != want {
		t.Errorf("the keys are %q, want %q", got, want)
	}
}

// wantCost goes by the entries themselves.
func wantCost(t *testing.T, s *Store) {
	t.Helper()
	sum := 0
	for key, e := range s.entries {
		if key != e.Key {
			t.Errorf("under %q stands the entry of %q", key, e.Key)
		}
		sum += len(key) + len(e.Value) + 16
	}
	if sum != s.cost || sum > s.quota {
		t.Errorf("the entries cost %d, counted as %d, of %d", sum, s.cost, s.quota)
	}
}

func TestAnEntryThatJustFits(t *testing.T) {
	for _, size := range []int{0, 1, 100} {
		value := strings.Repeat("v", size)
		for quota := 17 + size; quota < 20+size; quota++ {
			want(t, "one that fits", New(quota).Set(item("k", value), 0), Stored)
		}
		s := New(16 + size)
		want(t, "one that costs a byte too much", s.Set(item("k", value), 0), TooLarge)
		want(t, "one that costs a byte too much", s.Add(item("k", value), 0), TooLarge)
		wantCost(t, s)
	}
	want(t, "a quota of 1", New(1).Set(item("k", ""), 0), TooLarge)
}

func TestTooLargeChangesNothing(t *testing.T) {
	s := New(40)
	s.Set(item("a", "1"), 0)
	s.Set(item("b", "2"), 0)
	large := strings.Repeat("v", 24)
	want(t, "set", s.Set(item("a", large), 0), TooLarge)
	want(t, "replace", s.Replace(item("a", large), 0), TooLarge)
	want(t, "cas", s.Cas(item("a", large), 0, 1), TooLarge)
	want(t, "add", s.Add(item("c", large), 0), TooLarge)
	wantKeys(t, s, "ab")
	want(t, "the next one", s.Set(item("c", "3"), 0), Stored)
	wantKeys(t, s, "bc")
	if e, there := s.Get("c"); e.Mark != 3 || !there {
		t.Errorf("the mark of the third entry is %d", e.Mark)
	}
	wantCost(t, s)
}

func TestWhatAStoreAsksForFirst(t *testing.T) {
	s, large := New(40), strings.Repeat("v", 24)
	want(t, "replace of none", s.Replace(item("a", large), 0), NotStored)
	want(t, "cas of none", s.Cas(item("a", large), 0, 1), NotFound)
	s.Set(item("a", "1"), 0)
	want(t, "add of one that is there", s.Add(item("a", large), 0), NotStored)
	want(t, "cas with another mark", s.Cas(item("a", large), 0, 2), Exists)
	wantCost(t, s)
}

func TestTheOldEntryGoesAhead(t *testing.T) {
	s := New(60)
	for _, key := range []string{"a", "b", "c"} {
		s.Set(item(key, "123"), 0)
	}
	want(t, "the same size again", s.Set(item("a", "456"), 0), Stored)
	wantKeys(t, s, "abc")
	want(t, "a smaller one", s.Set(item("b", ""), 0), Stored)
	wantKeys(t, s, "abc")
	want(t, "the rest of the room", s.Set(item("b", "123"), 0), Stored)
	wantKeys(t, s, "abc")
	want(t, "one byte more", s.Set(item("b", "1234"), 0), Stored)
	wantKeys(t, s, "ab")
	wantCost(t, s)
}

func TestThoseNotUsedForLongestAreEvicted(t *testing.T) {
	s := New(100)
	for _, key := range []string{"a", "b", "c", "d", "e"} {
		s.Set(item(key, "123"), 0)
	}
	s.Get("a")
	s.Set(item("f", "123"), 0)
	wantKeys(t, s, "acdef")
	s.Set(item("c", "321"), 0)
	s.Set(item("b", "123"), 0)
	wantKeys(t, s, "abcef")
	// What did not store did not use.
	s.Add(item("e", "1"), 0)
	s.Cas(item("e", "1"), 0, 99)
	s.Set(item("d", "123"), 0)
	wantKeys(t, s, "abcdf")
	// Several go for one, and no more than must.
	s.Get("f")
	s.Set(item("e", strings.Repeat("v", 23)), 0)
	wantKeys(t, s, "bdef")
	s.Set(item("a", strings.Repeat("v", 83)), 0)
	wantKeys(t, s, "a")
	wantCost(t, s)
}

func TestNoUseOfAKeyWithoutEntry(t *testing.T) {
	s := New(100)
	if e, there := s.Get("a"); there || e != (Entry{}) || len(s.entries) != 0 {
		t.Errorf("Get of none = %+v, %v, and there are %d entries", e, there, len(s.entries))
	}
}

// For a run with the race detector; without it this shows only that nothing is lost.
func TestManyWorkOnOneStore(t *testing.T) {
	s := New(2000)
	var all sync.WaitGroup
	for w := range 8 {
		all.Go(func() {
			for n := range 200 {
				key := strconv.Itoa(n % 20)
				s.Set(item(key, strconv.Itoa(w)), 0)
				s.Get(key)
				s.Add(item(key, ""), 0)
				s.Replace(item(key, "x"), 0)
				s.Cas(item(key, "y"), 0, n)
				s.Set(item(key, "1"), n)
				s.Incr(key, n)
				s.Touch(key, n)
				if stats := s.Stats(); stats.Items > 20 || stats.Hits > stats.Gets {
					t.Errorf("of 20 keys: %+v", stats)
				}
				s.Delete("none")
			}
		})
	}
	all.Wait()
	if stats := s.Stats(); stats.Stores < 8*200*3 || stats.Gets != 8*200 || stats.Items != 20 {
		t.Errorf("behind all of it: %+v", stats)
	}
	for n := range 20 {
		s.Set(item(strconv.Itoa(n), "0"), 0)
	}
	for range 8 {
		all.Go(func() {
			for n := range 2000 {
				s.Incr(strconv.Itoa(n%20), 1)
			}
		})
	}
	all.Wait()
	for n := range 20 {
		if e, _ := s.Get(strconv.Itoa(n)); e.Value != "800" {
			t.Errorf("800 times one more is %q", e.Value)
		}
	}
	wantCost(t, s)
}

func TestEnds(t *testing.T) {
	wantEndsFrom(t, 0)
	wantEndsFrom(t, 1)
	wantEndsFrom(t, 1000000000)
}

func wantEndsFrom(t *testing.T, now int) {
	t.Helper()
	s := New(2000)
	s.ComeTo(now)
	wantEnd := func(what string, life int) {
		t.Helper()
		end := 0
		if life > 0 {
			end = now + life
		}
		if got := s.entries["a"].end; got != end {
			t.Errorf("behind %s at %d it ends at %d, want %d", what, now, got, end)
		}
	}
	s.Add(item("a", "1"), 5)
	wantEnd("add", 5)
	s.Incr("a", 1)
	wantEnd("incr", 5)
	s.Get("a")
	wantEnd("get", 5)
	s.Touch("a", 7)
	wantEnd("touch", 7)
	s.Add(item("a", "1"), 1)
	s.Cas(item("a", "1"), 1, 99)
	s.Set(item("a", strings.Repeat("v", 2000)), 1)
	wantEnd("what was refused", 7)
	s.Touch("a", 0)
	wantEnd("touch with no life", 0)
	s.Incr("a", 1)
	wantEnd("incr of one without an end", 0)
	s.Set(item("a", "1"), 1000000)
	wantEnd("set", 1000000)
	s.Replace(item("a", "1"), 3)
	wantEnd("replace", 3)
	s.Cas(item("a", "1"), 4, s.mark)
	wantEnd("cas", 4)
	s.Set(item("a", "1"), 0)
	wantEnd("set with no life", 0)
}

func TestComeTo(t *testing.T) {
	s := New(100)
	for n, key := range []string{"a", "b", "c", "d", "e"} {
		s.Set(item(key, "123"), n) // a has no end
	}
	for _, c := range []struct {
		now     int
		keys    string
		expired int
	}{{0, "abcde", 0}, {1, "acde", 1}, {1, "acde", 1}, {3, "ae", 3}, {4, "a", 4}, {1000000000, "a", 4}} {
		s.ComeTo(c.now)
		wantKeys(t, s, c.keys)
		wantCost(t, s)
		if stats := s.Stats(); stats.Expired != c.expired || stats.Evicted != 0 || stats.Items != len(c.keys) || stats.Bytes != 20*len(c.keys) {
			t.Errorf("at %d the numbers are %+v", c.now, stats)
		}
	}
}

func TestComeToUsesNothing(t *testing.T) {
	s := New(60)
	for _, key := range []string{"a", "b", "c"} {
		s.Set(item(key, "123"), 9)
	}
	s.Get("a")
	s.ComeTo(8)
	s.Set(item("d", "123"), 0)
	wantKeys(t, s, "acd")
	s.Set(item("e", "123"), 0)
	wantKeys(t, s, "ade")
}

// Whoever works on a store when time goes by finds it as it was ahead, or as it is behind; for a run with the race detector.
func TestTimeGoesByWhileOthersWork(t *testing.T) {
	s := New(2000)
	var all sync.WaitGroup
	all.Go(func() {
		for now := range 2000 {
			s.ComeTo(now)
		}
	})
	for range 4 {
		all.Go(func() {
			for n := range 1000 {
				key := strconv.Itoa(n % 20)
				s.Set(item(key, "1"), 1+n%3)
				s.Touch(key, 1)
				s.Incr(key, 1)
				if e, there := s.Get(key); there != (e.Key == key) {
					t.Errorf("Get(%q) = %+v, %v", key, e, there)
				}
				if stats := s.Stats(); stats.Bytes > 20*stats.Items || stats.Bytes < 18*stats.Items || stats.Items > 20 {
					t.Errorf("of 20 keys: %+v", stats)
				}
			}
		})
	}
	all.Wait()
	wantCost(t, s)
	s.ComeTo(3000)
	if stats := s.Stats(); stats.Items != 0 || stats.Bytes != 0 || stats.Expired < 1 {
		t.Errorf("when all have ended: %+v", stats)
	}
}

func TestDelete(t *testing.T) {
	s := New(40)
	want(t, "delete of none", s.Delete("a"), NotFound)
	s.Set(item("a", "123"), 0)
	s.Set(item("b", "123"), 0)
	want(t, "delete", s.Delete("a"), Deleted)
	want(t, "delete once more", s.Delete("a"), NotFound)
	wantKeys(t, s, "b")
	wantCost(t, s)
	s.Set(item("c", "123"), 0)
	wantKeys(t, s, "bc")
	wantCost(t, s)
}

func TestIncr(t *testing.T) {
	s := New(36)
	want(t, "incr of none", s.Incr("a", 1), NotFound)
	s.Set(Item{"a", "9", 7}, 0)
	s.Set(item("b", "x"), 0)
	want(t, "incr of no number", s.Incr("b", 1), NotNumber)
	want(t, "incr of 9 by 0", s.Incr("a", 0), "9")
	wantKeys(t, s, "ab")
	want(t, "incr of 9 by 1", s.Incr("a", 1), "10")
	wantKeys(t, s, "a")
	wantCost(t, s)
	if e, _ := s.Get("a"); e.Value != "10" || e.Flags != 7 || e.Mark != 4 {
		t.Errorf("behind it stands %+v", e)
	}
	small := New(18)
	small.Set(Item{"a", "9", 7}, 0)
	want(t, "a sum without room", small.Incr("a", 1), TooLarge)
	if e, _ := small.Get("a"); e.Value != "9" || e.Flags != 7 || e.Mark != 1 {
		t.Errorf("behind it stands %+v", e)
	}
	wantCost(t, small)
}

func TestTouch(t *testing.T) {
	s := New(40)
	want(t, "touch of none", s.Touch("a", 1), NotFound)
	if len(s.entries) != 0 {
		t.Errorf("touch of none has made an entry")
	}
	s.Set(item("a", "1"), 0)
	s.Set(item("b", "1"), 0)
	want(t, "touch", s.Touch("a", 1), Touched)
	s.Set(item("c", "1"), 0)
	wantKeys(t, s, "ac")
	wantCost(t, s)
}

func TestStats(t *testing.T) {
	s := New(60)
	wantStats := func(want Stats) {
		t.Helper()
		if got := s.Stats(); got != want {
			t.Errorf("the numbers are %+v, want %+v", got, want)
		}
	}
	wantStats(Stats{})
	s.Get("a")
	wantStats(Stats{Gets: 1})
	for _, key := range []string{"a", "b", "c"} {
		s.Set(item(key, "123"), 0)
	}
	s.Get("a")
	wantStats(Stats{Gets: 2, Hits: 1, Stores: 3, Items: 3, Bytes: 60})
	s.Incr("c", 1)
	s.Touch("b", 0)
	wantStats(Stats{Gets: 2, Hits: 1, Stores: 4, Items: 3, Bytes: 60})
	s.Set(item("d", strings.Repeat("v", 23)), 0)
	wantStats(Stats{Gets: 2, Hits: 1, Stores: 5, Evicted: 2, Items: 2, Bytes: 60})
	s.Delete("d")
	wantStats(Stats{Gets: 2, Hits: 1, Stores: 5, Evicted: 2, Items: 1, Bytes: 20})
}
