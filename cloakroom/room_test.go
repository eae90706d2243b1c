package cloakroom_test

import (
	"fmt"
	"math"
	"math/rand"
	"regexp"
	"strconv"
	"strings"
	"testing"
)

func TestAnEntryThatCostsJustTheQuota(t *testing.T) {
	for _, key := range []string{"k", "12345678901234567890"} {
		for _, size := range []int{0, 1, 9, 100} {
			value, cost := strings.Repeat("1", size), len(key)+size+16
			line := fmt.Sprintf("%s 5 0 %d|%s|", key, size, value)
			get := fmt.Sprintf("VALUE %s 5 %d 1|%s|END|", key, size, value)
			for _, name := range []string{"set ", "add "} {
				annWith(t, cost, name+line+"get "+key+"|stats|", "STORED|"+get+statsOf(1, 1, 1, 0, 1, cost))
				annWith(t, cost-1, name+line+"get "+key+"|stats|", "TOO LARGE|END|"+statsOf(1, 0, 0, 0, 0, 0))
			}
		}
	}
	annWith(t, 1, "set a 0 0 0||stats|", "TOO LARGE|"+statsOf(0, 0, 0, 0, 0, 0))
	annWith(t, 17, "set a 0 0 0||set b 0 0 0||get a b|", "STORED|STORED|VALUE b 0 0 2||END|")
}

func TestReplacedByOneThatCostsJustTheQuota(t *testing.T) {
	for _, name := range []string{"set a 5 0 %d|%s|", "replace a 5 0 %d|%s|", "cas a 5 0 %d 2|%s|"} {
		just, over := strings.Repeat("v", 23), strings.Repeat("v", 24)
		ab := "set b 0 0 3|123|set a 0 0 3|123|"
		annWith(t, 40, ab+fmt.Sprintf(name, 23, just)+"get a b|", "STORED|STORED|STORED|VALUE a 5 23 3|"+just+"|END|")
		annWith(t, 40, ab+fmt.Sprintf(name, 24, over)+"get a b|", "STORED|STORED|TOO LARGE|VALUE a 0 3 2|123|VALUE b 0 3 1|123|END|")
	}
}

// Three entries fill the room, and a fourth takes that of the one which was not used for longest.
func TestWhoGoesFirst(t *testing.T) {
	ahead := "set a 0 0 3|123|set b 0 0 3|123|set c 0 0 3|123|"
	for _, c := range []struct{ in, left string }{
		{"", "bc"},
		// These use the first one, and the second one goes.
		{"get a|", "ac"}, {"get x a|", "ac"}, {"set a 0 0 3|456|", "ac"}, {"replace a 0 0 3|456|", "ac"}, {"cas a 0 0 3 1|456|", "ac"},
		{"incr a 1|", "ac"}, {"incr a 0|", "ac"}, {"touch a 0|", "ac"}, {"touch a 9|", "ac"}, {"delete a|add a 0 0 3|456|", "ac"},
		{"get a b|", "ab"}, {"get b a|", "ab"}, {"get a|incr b 1|", "ab"}, {"touch b 1|touch a 1|", "ab"}, {"get c a|", "ac"}, {"get a b c a|", "ac"}, {"get a b c|", "bc"}, {"get c b a|", "ab"}, {"get a a a b b a c|", "ac"},
		// These use none, as they are refused, or only tell.
		{"get x|", "bc"}, {"add a 0 0 3|456|", "bc"}, {"replace x 0 0 3|456|", "bc"}, {"cas a 0 0 3 2|456|", "bc"}, {"cas x 0 0 3 1|456|", "bc"}, {"cas a 0 0 44 1|" + strings.Repeat("v", 44) + "|", "bc"},
		{"set a 0 0 44|" + strings.Repeat("v", 44) + "|", "bc"}, {"replace a 0 0 44|" + strings.Repeat("v", 44) + "|", "bc"}, {"set a 0 0 3|4567|", "bc"}, {"set a 0 0 x|", "bc"}, {"get a |", "bc"},
		{"incr x 1|", "bc"}, {"incr a 01|", "bc"}, {"touch x 1|", "bc"}, {"touch a 1000001|", "bc"}, {"delete x|", "bc"}, {"stats|", "bc"}, {"auth ann x|", "bc"}, {"auth ann y|", "bc"},
		// One of another size, stored anew, goes ahead of the others; these then go if they must.
		{"set a 0 0 4|1234|", "a"}, {"set b 0 0 4|1234|", "b"}, {"set c 0 0 0||", "bc"}, {"incr a 1000|", "a"}, {"incr b 1000|", "b"},
	} {
		s := dialled(t, 1, tenant("ann", "x", 60))
		says(t, s, 0, "auth ann x|"+ahead, "OK|STORED|STORED|STORED|")
		s.Feed(0, unbarred(c.in))
		s.Take(0, math.MaxInt)
		says(t, s, 0, "set d 0 0 3|123|", "STORED|")
		s.Feed(0, "get a b c d\n")
		x, _ := s.Take(0, math.MaxInt)
		left := ""
		for _, value := range values.FindAllStringSubmatch(x, -1) {
			left += value[1]
		}
		if left != c.left+"d" {
			t.Errorf("P8: behind %q and one more there are %s, want %sd", c.in, left, c.left)
		}
	}
	// What is no number is not used either.
	annWith(t, 60, "set a 0 0 3|abc|set b 0 0 3|abc|set c 0 0 3|abc|incr a 1|set d 0 0 3|abc|get a b|", "STORED|STORED|STORED|NOT NUMBER|STORED|VALUE b 0 3 2|abc|END|")
}

func TestStoredAnewIsNotEvicted(t *testing.T) {
	abc, stored := "set a 0 0 3|123|set b 0 0 3|123|set c 0 0 3|123|", "STORED|STORED|STORED|"
	for _, c := range []struct {
		in, want              string
		evicted, items, bytes int
	}{
		{"set a 0 0 3|456|", "STORED|", 0, 3, 60}, {"replace b 0 0 2|45|", "STORED|", 0, 3, 59}, {"cas c 0 0 0 3||", "STORED|", 0, 3, 57}, {"incr a 1|", "124|", 0, 3, 60},
		{"set a 0 0 4|4567|", "STORED|", 1, 2, 41}, {"cas a 0 0 24 1|" + strings.Repeat("v", 24) + "|", "STORED|", 2, 1, 41}, {"replace b 0 0 43|" + strings.Repeat("v", 43) + "|", "STORED|", 2, 1, 60}, {"incr c 877|", "1000|", 1, 2, 41},
	} {
		annWith(t, 60, abc+c.in+"stats|", stored+c.want+statsOf(0, 0, 4, c.evicted, c.items, c.bytes))
	}
}

var values = regexp.MustCompile(`(?m)^VALUE (\S+) \d+ (\d+) \d+$`)

// costOf reckons what the entries cost that a get has answered.
func costOf(answers string) (cost, items int) {
	for _, value := range values.FindAllStringSubmatch(answers, -1) {
		size, _ := strconv.Atoi(value[2])
		cost += len(value[1]) + size + 16
		items++
	}
	return cost, items
}

var costs = regexp.MustCompile(`items (\d+)\nbytes (\d+)\nEND\n$`)

// As a get uses what it answers, each row of commands is begun anew to look at what is there behind one more of them.
func TestNeverMoreThanTheQuota(t *testing.T) {
	r := rand.New(rand.NewSource(5))
	for range 300 {
		quota := 1 + r.Intn(pick(r, 50, 150, 500))
		row := []part{{bytes: "auth ann x\n"}}
		for range 1 + r.Intn(30) {
			row = append(row, part{0, pick(r, storeOf(r), storeOf(r), otherOf(r), "get "+keyOf(r)+"\n"), secondsOf(r)})
		}
		for n := range len(row) + 1 {
			s := dialled(t, 2, tenant("ann", "x", quota))
			fed(s, row[:n], 0)
			s.Feed(1, "auth ann x\nget a b c dd eeeeeeeeee ffffffffffffffffffff\nstats\n")
			x, _ := s.Take(1, math.MaxInt)
			cost, items := costOf(x)
			told := costs.FindStringSubmatch(x)
			if cost > quota || told == nil || told[1] != strconv.Itoa(items) || told[2] != strconv.Itoa(cost) {
				t.Fatalf("P8: behind %v, %d entries cost %d of %d, and stats tells %v", row[:n], items, cost, quota, told)
			}
		}
	}
}
