package cloakroom_test

import (
	"fmt"
	"math"
	"strings"
	"testing"

	"cloakroom/api"
	"cloakroom/cloakroom"
)

func wantTick(t *testing.T, s *cloakroom.Server, n int, want api.Errno) {
	t.Helper()
	if e := s.Tick(n); e != want {
		t.Errorf("P10: Tick(%d) = %d, want %d", n, e, want)
	}
}

// annAt answers a server whose time is this one, with a connection that belongs to ann.
func annAt(t *testing.T, now, quota int) *cloakroom.Server {
	t.Helper()
	s := dialled(t, 1, tenant("ann", "x", quota))
	says(t, s, 0, "auth ann x|", "OK|")
	passTo(t, s, now)
	return s
}

// passTo brings a server from the time 0 to this one.
func passTo(t *testing.T, s *cloakroom.Server, now int) {
	t.Helper()
	for ; now > 1000000; now -= 1000000 {
		wantTick(t, s, 1000000, api.OK)
	}
	wantTick(t, s, now, api.OK)
}

// passed goes by turns: a number is handed to Tick; of a text, what stands ahead of => is fed, and the rest must be answered.
func passed(t *testing.T, s *cloakroom.Server, turns ...any) {
	t.Helper()
	for _, turn := range turns {
		switch x := turn.(type) {
		case int:
			wantTick(t, s, x, api.OK)
		case string:
			in, want, _ := strings.Cut(x, "=>")
			says(t, s, 0, in, want)
		}
	}
}

var wrongTicks = []int{-1, -2, -1000000, 1000001, 1000002, 2000000, 1000000000, 1 << 31, -1 << 31, 1 << 32, 1<<32 + 1, -1<<32 + 1, math.MaxInt, math.MaxInt - 1, math.MinInt, math.MinInt + 1}

func TestTicksThatMayNotBe(t *testing.T) {
	for _, now := range []int{0, 1, 1000000, 999999999, 1000000000} {
		s := annAt(t, now, 100)
		says(t, s, 0, "set a 0 1 1|1|set b 0 0 1|2|", "STORED|STORED|")
		for range 3 {
			for _, n := range wrongTicks {
				wantTick(t, s, n, api.ErrArg)
			}
		}
		says(t, s, 0, "get a b|stats|", "VALUE a 0 1 1|1|VALUE b 0 1 2|2|END|"+statsOf(2, 2, 2, 0, 2, 36))
	}
	for _, n := range []int{0, 1, 2, 999999, 1000000} {
		wantTick(t, annAt(t, 0, 100), n, api.OK)
	}
}

func TestHowFarTheTimeGoes(t *testing.T) {
	s := annAt(t, 999999990, 100)
	says(t, s, 0, "set a 0 10 1|1|set b 0 11 1|2|", "STORED|STORED|")
	for _, n := range []int{11, 12, 100, 999999, 1000000} {
		wantTick(t, s, n, api.ErrArg)
	}
	// What may not be has moved no time, so these come to just 10^9.
	passed(t, s, 9, "get a b|=>VALUE a 0 1 1|1|VALUE b 0 1 2|2|END|")
	wantTick(t, s, 2, api.ErrArg)
	passed(t, s, "get a|=>VALUE a 0 1 1|1|END|", 1, "get a b|=>VALUE b 0 1 2|2|END|")
	for _, n := range []int{1, 2, 1000000} {
		wantTick(t, s, n, api.ErrArg)
	}
	// There all goes on, but no entry ends any more.
	passed(t, s, 0, 0, "set c 0 1 1|3|touch b 1|get b c|=>STORED|TOUCHED|VALUE b 0 1 2|2|VALUE c 0 1 3|3|END|", 0, "get b c|=>VALUE b 0 1 2|2|VALUE c 0 1 3|3|END|")
	for _, step := range []int{1000000, 999999, 500001} {
		s, left := annAt(t, 0, 100), 1000000000
		for ; left >= step; left -= step {
			wantTick(t, s, step, api.OK)
		}
		wantTick(t, s, left+1, api.ErrArg)
		wantTick(t, s, left, api.OK)
		wantTick(t, s, 1, api.ErrArg)
	}
}

func TestTickOfNoTime(t *testing.T) {
	s := annAt(t, 0, 100)
	says(t, s, 0, "set a 0 1 1|1|set b 0 0 1|2|", "STORED|STORED|")
	for range 1000 {
		wantTick(t, s, 0, api.OK)
	}
	passed(t, s, "get a b|=>VALUE a 0 1 1|1|VALUE b 0 1 2|2|END|", 1, 0, "get a b|=>VALUE b 0 1 2|2|END|", "stats|=>"+endedStats(4, 3, 2, 0, 1, 1, 18))
}

// What is stored with each of these lives, at each of these times, by ticks of each of these kinds, is there till its end, and no longer.
func TestAsLongAsItsLife(t *testing.T) {
	for _, now := range []int{0, 1, 7, 1000000, 12345678} {
		for _, life := range []int{1, 2, 5, 100, 999999, 1000000} {
			for _, ticks := range ticksTo(life) {
				s := annAt(t, now, 100)
				says(t, s, 0, fmt.Sprintf("set a 3 %d 2|aa|set b 4 0 2|bb|", life), "STORED|STORED|")
				for i, n := range ticks {
					if i > 0 {
						says(t, s, 0, "get a b|", "VALUE a 3 2 1|aa|VALUE b 4 2 2|bb|END|")
					}
					wantTick(t, s, n, api.OK)
				}
				says(t, s, 0, "get a b|", "VALUE b 4 2 2|bb|END|")
				passed(t, s, 1, "get a b|=>VALUE b 4 2 2|bb|END|", 1000000, "get a b|=>VALUE b 4 2 2|bb|END|")
			}
		}
	}
}

// ticksTo answers rows of ticks, of which only the last one comes to so many seconds, or beyond.
func ticksTo(seconds int) [][]int {
	rows := [][]int{{seconds}, {seconds - 1, 1}, {0, seconds - 1, 0, 1}, {seconds / 2, seconds - 1 - seconds/2, 1}, {seconds - 1, 2}, {seconds - 1, 1000000}}
	if seconds < 1000000 {
		rows = append(rows, []int{seconds + 1}, []int{1000000})
	}
	if seconds <= 100 {
		var ones []int
		for range seconds {
			ones = append(ones, 1)
		}
		rows = append(rows, ones)
	}
	return rows
}

func TestNoEnd(t *testing.T) {
	s := annAt(t, 0, 2000)
	says(t, s, 0, "set a 0 0 1|1|add b 0 0 1|2|set c 0 5 1|3|touch c 0|set d 0 5 1|4|replace d 0 0 1|5|set e 0 5 1|6|cas e 0 0 1 6|7|set f 0 0 1|8|incr f 1|",
		"STORED|STORED|STORED|TOUCHED|STORED|STORED|STORED|STORED|STORED|9|")
	for _, n := range []int{1, 4, 1, 100, 999999, 1000000} {
		wantTick(t, s, n, api.OK)
		s.Feed(0, "get a b c d e f\n")
		if x, _ := s.Take(0, math.MaxInt); strings.Count(x, "VALUE") != 6 {
			t.Errorf("P10: behind Tick(%d) there is only %q of six without an end", n, x)
		}
	}
	for range 900 {
		wantTick(t, s, 1000000, api.OK)
	}
	says(t, s, 0, "stats|", statsOf(36, 36, 9, 0, 6, 108))
}

// Each is done 3 seconds behind a set with a life of 5, or with none: so many seconds later the entry ends.
func TestAnEndSetAnew(t *testing.T) {
	for _, c := range []struct {
		in, want string
		five     int // the seconds that are left of a life of 5
		none     int // and of none; 0: there is no end
	}{
		{"", "", 2, 0},
		{"set a 0 4 1|2|", "STORED|", 4, 4}, {"set a 0 1 1|2|", "STORED|", 1, 1}, {"set a 0 0 1|2|", "STORED|", 0, 0}, {"set a 0 1000000 1|2|", "STORED|", 1000000, 1000000},
		{"replace a 0 4 1|2|", "STORED|", 4, 4}, {"replace a 0 1 1|2|", "STORED|", 1, 1}, {"replace a 0 0 1|2|", "STORED|", 0, 0},
		{"cas a 0 4 1 1|2|", "STORED|", 4, 4}, {"cas a 0 1 1 1|2|", "STORED|", 1, 1}, {"cas a 0 0 1 1|2|", "STORED|", 0, 0},
		{"touch a 4|", "TOUCHED|", 4, 4}, {"touch a 1|", "TOUCHED|", 1, 1}, {"touch a 0|", "TOUCHED|", 0, 0}, {"touch a 1000000|", "TOUCHED|", 1000000, 1000000}, {"touch a 9|touch a 4|", "TOUCHED|TOUCHED|", 4, 4},
		{"delete a|add a 0 4 1|2|", "DELETED|STORED|", 4, 4}, {"delete a|add a 0 0 1|2|", "DELETED|STORED|", 0, 0},
		{"touch a 4|incr a 1|", "TOUCHED|2|", 4, 4}, {"touch a 0|incr a 1|", "TOUCHED|2|", 0, 0},
		// These keep the end.
		{"incr a 1|", "2|", 2, 0}, {"incr a 0|incr a 98|incr a 900|", "1|99|999|", 2, 0}, {"get a|", "VALUE a 7 1 1|1|END|", 2, 0}, {"stats|", statsOf(0, 0, 1, 0, 1, 18), 2, 0},
		{"add a 0 4 1|2|", "NOT STORED|", 2, 0}, {"cas a 0 4 1 2|2|", "EXISTS|", 2, 0}, {"set a 0 4 1|22|", "ERROR data|", 2, 0}, {"touch a 1000001|", "ERROR bad|", 2, 0}, {"touch b 4|", "NOT FOUND|", 2, 0},
		{"set a 0 4 4|1234|", "TOO LARGE|", 2, 0}, {"replace a 0 4 4|1234|", "TOO LARGE|", 2, 0}, {"cas a 0 4 4 1|1234|", "TOO LARGE|", 2, 0}, {"incr a 9999|", "TOO LARGE|", 2, 0}, {"auth ann x|", "OK|", 2, 0},
	} {
		wantSeconds(t, "set a 7 5 1|1|", c.in, c.want, c.five)
		wantSeconds(t, "set a 7 0 1|1|", c.in, c.want, c.none)
	}
}

func wantSeconds(t *testing.T, ahead, in, want string, seconds int) {
	t.Helper()
	rows := [][]int{{1000000}}
	if seconds > 0 {
		rows = ticksTo(seconds)
	}
	for _, ticks := range rows {
		s := annAt(t, 11, 20)
		passed(t, s, ahead+"=>STORED|", 3, in+"=>"+want)
		for _, n := range ticks {
			if s.Feed(0, "get a\n"); !answered(s, "VALUE a ") {
				t.Errorf("P10: behind %q and %q it has ended ahead of the last of %d", ahead, in, ticks)
			}
			wantTick(t, s, n, api.OK)
		}
		if s.Feed(0, "get a\n"); answered(s, "VALUE a ") != (seconds == 0) {
			t.Errorf("P10: behind %q and %q it has %d seconds, and is there or not behind %d", ahead, in, seconds, ticks)
		}
	}
}

// answered takes all that was answered.
func answered(s *cloakroom.Server, text string) bool {
	x, _ := s.Take(0, math.MaxInt)
	return strings.Contains(x, text)
}

// A command that stores is done when its value has come.
func TestALifeBeginsWhenTheValueHasCome(t *testing.T) {
	for _, name := range []string{"set a 0 5 3|", "replace a 0 5 3|", "cas a 0 5 3 1|"} {
		s := annAt(t, 0, 100)
		passed(t, s, "set a 0 9 1|1|=>STORED|", 1, name+"=>", 3, "ab=>", 2, "c=>", 2, "|=>STORED|", 4, "get a|=>VALUE a 0 3 2|abc|END|", 1, "get a|=>END|")
		// Whether there is an entry is asked then, too.
		s = annAt(t, 0, 100)
		want := "NOT STORED|"
		if name[:3] == "cas" {
			want = "NOT FOUND|"
		}
		if name[:3] != "set" {
			passed(t, s, "set a 0 9 1|1|=>STORED|", 1, name+"abc=>", 8, "|=>"+want)
		}
	}
	passed(t, annAt(t, 0, 100), "set a 0 9 1|1|add a 0 5 1|x=>STORED|", 9, "|=>STORED|", 4, "get a|=>VALUE a 0 1 2|x|END|", 1, "get a|=>END|")
	passed(t, annAt(t, 0, 100), "set a 0 9 1|1|get a=>STORED|", 8, "|get a=>VALUE a 0 1 1|1|END|", 1, "\r=>", "|=>END|")
}

func TestWhatHasEndedIsFoundByNoCommand(t *testing.T) {
	for _, c := range []struct{ in, want string }{
		{"get a|", "END|"}, {"get a b a|", "VALUE b 0 1 2|2|END|"}, {"delete a|", "NOT FOUND|"}, {"incr a 1|", "NOT FOUND|"}, {"touch a 5|", "NOT FOUND|"}, {"touch a 0|get a|", "NOT FOUND|END|"},
		{"replace a 0 0 1|3|get a|", "NOT STORED|END|"}, {"cas a 0 0 1 1|3|get a|", "NOT FOUND|END|"}, {"cas a 0 0 1 9|3|", "NOT FOUND|"},
		// A new one has the next mark, and nothing of the old one.
		{"add a 9 0 1|3|get a|", "STORED|VALUE a 9 1 3|3|END|"}, {"set a 9 0 1|3|get a|cas a 0 0 1 1|4|", "STORED|VALUE a 9 1 3|3|END|EXISTS|"},
	} {
		passed(t, annAt(t, 0, 100), "set a 7 5 1|1|set b 0 0 1|2|=>STORED|STORED|", 5, c.in+"=>"+c.want)
		passed(t, annAt(t, 0, 100), "set a 7 5 1|1|set b 0 0 1|2|=>STORED|STORED|", 4, 1000000, 0, c.in+"=>"+c.want)
	}
	passed(t, annAt(t, 0, 100), "set a 7 5 1|1|=>STORED|", 5, "add a 9 0 1|3|=>STORED|", 5, 1000000, "get a|=>VALUE a 9 1 2|3|END|")
}

func TestStatsOfWhatHasEnded(t *testing.T) {
	s := annAt(t, 0, 100)
	passed(t, s, "set a 0 1 3|abc|set b 0 2 3|abc|set c 0 2 3|abc|set d 0 3 3|abc|set e 0 0 3|abc|stats|=>"+strings.Repeat("STORED|", 5)+statsOf(0, 0, 5, 0, 5, 100),
		0, "stats|=>"+statsOf(0, 0, 5, 0, 5, 100),
		1, "stats|stats|=>"+endedStats(0, 0, 5, 0, 1, 4, 80)+endedStats(0, 0, 5, 0, 1, 4, 80),
		0, "stats|=>"+endedStats(0, 0, 5, 0, 1, 4, 80),
		1, "stats|=>"+endedStats(0, 0, 5, 0, 3, 2, 40),
		1, "get d e|stats|=>VALUE e 0 3 5|abc|END|"+endedStats(2, 1, 5, 0, 4, 1, 20),
		1000000, "stats|delete e|stats|=>"+endedStats(2, 1, 5, 0, 4, 1, 20)+"DELETED|"+endedStats(2, 1, 5, 0, 4, 0, 0),
		1000000, "stats|=>"+endedStats(2, 1, 5, 0, 4, 0, 0))
	// What went in another way ahead of its end has not ended: stored anew, deleted, evicted.
	passed(t, annAt(t, 0, 40), "set a 0 2 3|abc|set a 0 0 3|abc|set b 0 2 3|abc|delete b|set b 0 2 3|abc|set c 0 0 3|abc|set d 0 0 3|abc|=>STORED|STORED|STORED|DELETED|STORED|STORED|STORED|",
		2, "stats|=>"+statsOf(0, 0, 6, 2, 2, 40))
	// One key ends as often as it is stored again.
	s = annAt(t, 0, 40)
	for n := 1; n <= 20; n++ {
		passed(t, s, "set a 0 1 3|abc|=>STORED|", 1, "stats|=>"+endedStats(0, 0, n, 0, n, 0, 0))
	}
}

func TestWhatHasEndedFreesItsRoom(t *testing.T) {
	abc, stored := "set a 0 0 3|123|set b 0 5 3|123|set c 0 0 3|123|", "STORED|STORED|STORED|"
	passed(t, annAt(t, 0, 60), abc+"=>"+stored, 5, "set d 0 0 3|123|get a b c d|stats|=>STORED|VALUE a 0 3 1|123|VALUE c 0 3 3|123|VALUE d 0 3 4|123|END|"+endedStats(4, 3, 4, 0, 1, 3, 60))
	passed(t, annAt(t, 0, 60), abc+"=>"+stored, 5, "incr a 900|stats|incr a 999999999|incr c 999999|stats|=>1023|"+endedStats(0, 0, 4, 0, 1, 2, 41)+"1000001022|1000122|"+endedStats(0, 0, 6, 0, 1, 2, 51))
	// Of one byte more there is no room.
	passed(t, annAt(t, 0, 60), abc+"=>"+stored, 5, "set d 0 0 4|1234|get a b c d|stats|=>STORED|VALUE c 0 3 3|123|VALUE d 0 4 4|1234|END|"+endedStats(4, 2, 4, 1, 1, 2, 41))
	passed(t, annAt(t, 0, 60), abc+"=>"+stored, 4, "set d 0 0 3|123|get a b c d|stats|=>STORED|VALUE b 0 3 2|123|VALUE c 0 3 3|123|VALUE d 0 3 4|123|END|"+statsOf(4, 3, 4, 1, 3, 60))
	// All have ended: the whole room is there, and no more than that.
	v := strings.Repeat("v", 43)
	passed(t, annAt(t, 0, 60), "set a 0 1 3|123|set b 0 2 3|123|set c 0 1 3|123|=>"+stored, 2, "set d 0 0 44|"+v+"v|set d 0 0 43|"+v+"|stats|=>TOO LARGE|STORED|"+endedStats(0, 0, 4, 0, 3, 1, 60))
}

// Five entries fill the room, one or more end, and those that are left go in the order in which they were used.
func TestWhoGoesFirstBehindATick(t *testing.T) {
	for _, c := range []struct {
		ends, in string // whose life is 5, and what is said ahead of the tick
		order    string // in which the others go
	}{
		{"", "", "abcde"}, {"a", "", "bcde"}, {"c", "", "abde"}, {"e", "", "abcd"}, {"bd", "", "ace"}, {"ae", "", "bcd"}, {"abcd", "", "e"},
		{"", "get a|", "bcdea"}, {"c", "get b|", "adeb"}, {"c", "get c b|", "adeb"}, {"a", "touch c 0|get b|", "decb"}, {"a", "incr d 1|get b|set c 0 0 3|001|", "edbc"}, {"e", "get d c b a|", "dcba"}, {"b", "touch b 5|touch c 9|get a|", "deca"},
	} {
		s := annAt(t, 0, 100)
		for _, key := range strings.Split("abcde", "") {
			life := 0
			if strings.Contains(c.ends, key) {
				life = 5
			}
			says(t, s, 0, fmt.Sprintf("set %s 0 %d 3|000|", key, life), "STORED|")
		}
		s.Feed(0, unbarred(c.in))
		s.Take(0, math.MaxInt)
		for _, n := range []int{0, 5, 0, 3} {
			wantTick(t, s, n, api.OK)
		}
		wantOrder(t, s, c.order)
	}
}

// wantOrder fills the room of ann, and looks who goes for one byte more, and one more, ..
func wantOrder(t *testing.T, s *cloakroom.Server, order string) {
	t.Helper()
	got := ""
	for n := len(order); n > 0; n-- {
		// As large as to leave room for n-1 of the others.
		size := 100 - 20*(n-1) - 17
		s.Feed(0, fmt.Sprintf("set z 0 0 %d\n%s\n", size, strings.Repeat("z", size)))
		s.Take(0, math.MaxInt)
		for _, key := range strings.Split(order, "") {
			if !strings.Contains(got, key) && !isThere(s, key) {
				got += key
			}
		}
	}
	if got != order {
		t.Errorf("P8, P10: behind the ticks they went in the order %s, want %s", got, order)
	}
}

// isThere looks for an entry of ann without using it, as a get would: no mark is so great, so nothing is stored.
func isThere(s *cloakroom.Server, key string) bool {
	s.Feed(0, "cas "+key+" 0 0 0 999999999\n\n")
	return answered(s, "EXISTS")
}

func TestSeveralTenantsAtOneTick(t *testing.T) {
	names := []string{"ann", "bob", "cid", "dan", "eve"}
	s := dialled(t, 5, tenant("ann", "x", 2000), tenant("bob", "x", 2000), tenant("cid", "x", 2000), tenant("dan", "x", 2000), tenant("eve", "x", 2000))
	for c, name := range names {
		says(t, s, c, "auth "+name+" x|", "OK|")
		// The n-th of them has n entries that end at 5, and one each at 6 and at no time.
		for n := range c + 1 {
			says(t, s, c, fmt.Sprintf("set k%d 0 5 1|1|", n), "STORED|")
		}
		says(t, s, c, "set l 0 6 1|1|set m 0 0 1|1|", "STORED|STORED|")
	}
	wantEach := func(expired func(n int) int) {
		t.Helper()
		for c := range names {
			n, gone := c+1, expired(c+1)
			items := n + 2 - gone
			bytes := 19*max(0, n-gone) + 18*min(2, items)
			says(t, s, c, "stats|", endedStats(0, 0, n+2, 0, gone, items, bytes))
		}
	}
	wantTick(t, s, 4, api.OK)
	wantEach(func(n int) int { return 0 })
	wantTick(t, s, 1, api.OK)
	wantEach(func(n int) int { return n })
	wantTick(t, s, 1, api.OK)
	wantEach(func(n int) int { return n + 1 })
	wantTick(t, s, 1000000, api.OK)
	wantEach(func(n int) int { return n + 1 })
}

// All of the room of all tenants, many times over, each time asked at once: no goroutine is left that has not looked yet.
func TestAllHaveEndedWhenTickAnswers(t *testing.T) {
	names := []string{"ann", "bob", "cid", "dan", "eve"}
	s := dialled(t, 5, tenant("ann", "x", 2000), tenant("bob", "x", 2000), tenant("cid", "x", 2000), tenant("dan", "x", 2000), tenant("eve", "x", 2000))
	for c, name := range names {
		says(t, s, c, "auth "+name+" x|", "OK|")
	}
	for n := 1; n <= 200; n++ {
		for c := range names {
			for key := range 100 {
				s.Feed(c, fmt.Sprintf("set %d 0 1 0\n\n", key))
			}
			s.Take(c, math.MaxInt)
		}
		wantTick(t, s, 1, api.OK)
		for c := range names {
			says(t, s, c, "stats|", endedStats(0, 0, 100*n, 0, 100*n, 0, 0))
		}
	}
}

func TestATenantWithoutConnection(t *testing.T) {
	s := dialled(t, 2, ann, bob)
	says(t, s, 0, "auth ann x|set a 0 5 1|1|set b 0 6 1|2|quit|", "OK|STORED|STORED|")
	wantHang(t, s, 0, api.OK)
	wantTick(t, s, 5, api.OK)
	says(t, s, 1, "auth ann x|get a b|stats|", "OK|VALUE b 0 1 2|2|END|"+endedStats(2, 1, 2, 0, 1, 1, 18))
	// The time is there for those that no one has spoken for yet, too.
	says(t, s, 1, "auth bob y|set a 0 1 1|1|", "OK|STORED|")
	wantTick(t, s, 1, api.OK)
	says(t, s, 1, "get a|stats|auth ann x|get b|", "END|"+endedStats(1, 0, 1, 0, 1, 0, 0)+"OK|END|")
}

func TestTickTellsTheConnectionsNothing(t *testing.T) {
	s := dialled(t, 4, ann)
	s.Feed(0, "auth ann x\nset a 0 1 1\n1\nget a\nget ")
	s.Feed(1, "auth ann")
	s.Feed(2, strings.Repeat("x", 121))
	s.Feed(3, "auth ann x\nquit\n")
	wantTick(t, s, 1, api.OK)
	wantTick(t, s, -1, api.ErrArg)
	says(t, s, 0, "a|", "OK|STORED|VALUE a 0 1 1|1|END|END|")
	says(t, s, 1, " x|get a|", "OK|END|")
	says(t, s, 2, "auth ann x|get a|", "ERROR long|ERROR auth|")
	says(t, s, 3, "get a|", "OK|")
	wantDial(t, s, 4, api.OK)
}

func TestTicksOfAnotherServer(t *testing.T) {
	a, b := dialled(t, 1, ann), dialled(t, 1, ann)
	passTo(t, a, 1000000000)
	for _, s := range []*cloakroom.Server{a, b} {
		says(t, s, 0, "auth ann x|set a 0 5 1|1|", "OK|STORED|")
	}
	wantTick(t, a, 1, api.ErrArg)
	passed(t, b, 4, "get a|=>VALUE a 0 1 1|1|END|", 1, "get a|stats|=>END|"+endedStats(2, 1, 1, 0, 1, 0, 0))
	says(t, a, 0, "get a|stats|", "VALUE a 0 1 1|1|END|"+statsOf(1, 1, 1, 0, 1, 18))
	says(t, dialled(t, 1, ann), 0, "auth ann x|get a|stats|", "OK|END|"+statsOf(1, 0, 0, 0, 0, 0))
}
