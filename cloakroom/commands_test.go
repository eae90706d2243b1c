package cloakroom_test

import (
	"fmt"
	"strings"
	"testing"
)

// statsOf is what stats answers where none has ended, a bar for each newline.
func statsOf(gets, hits, stores, evicted, items, bytes int) string {
	return endedStats(gets, hits, stores, evicted, 0, items, bytes)
}

func endedStats(gets, hits, stores, evicted, expired, items, bytes int) string {
	return fmt.Sprintf("gets %d|hits %d|stores %d|evicted %d|expired %d|items %d|bytes %d|END|", gets, hits, stores, evicted, expired, items, bytes)
}

// annWith is said on a new server, on a connection that belongs to ann, who has this quota.
func annWith(t *testing.T, quota int, in, want string) {
	t.Helper()
	says(t, dialled(t, 1, tenant("ann", "x", quota)), 0, "auth ann x|"+in, "OK|"+want)
}

func TestDelete(t *testing.T) {
	annSays(t, "delete a|", "NOT FOUND|")
	annSays(t, "set a 0 0 1|1|delete b|delete A|delete aa|get a|", "STORED|NOT FOUND|NOT FOUND|NOT FOUND|VALUE a 0 1 1|1|END|")
	annSays(t, "set a 0 0 1|1|set b 0 0 1|2|delete a|get a b|delete a|", "STORED|STORED|DELETED|VALUE b 0 1 2|2|END|NOT FOUND|")
	annSays(t, "set 12345678901234567890 0 0 0||delete 12345678901234567890\r|get 12345678901234567890|", "STORED|DELETED|END|")
	// It is as if it had never been, but for the marks.
	annSays(t, "set a 7 0 1|1|delete a|replace a 0 0 1|1|cas a 0 0 1 1|1|incr a 1|touch a 1|add a 8 0 1|2|get a|",
		"STORED|DELETED|NOT STORED|NOT FOUND|NOT FOUND|NOT FOUND|STORED|VALUE a 8 1 2|2|END|")
}

func TestDeleteFreesRoom(t *testing.T) {
	abc, stored := "set a 0 0 3|123|set b 0 0 3|123|set c 0 0 3|123|", "STORED|STORED|STORED|"
	annWith(t, 60, abc+"delete b|stats|", stored+"DELETED|"+statsOf(0, 0, 3, 0, 2, 40))
	annWith(t, 60, abc+"delete c|set d 0 0 3|123|stats|get a b d|", stored+"DELETED|STORED|"+statsOf(0, 0, 4, 0, 3, 60)+"VALUE a 0 3 1|123|VALUE b 0 3 2|123|VALUE d 0 3 4|123|END|")
	annWith(t, 60, abc+"delete a|set d 0 0 4|1234|get b c d|", stored+"DELETED|STORED|VALUE c 0 3 3|123|VALUE d 0 4 4|1234|END|")
	annWith(t, 60, abc+"delete a|delete b|delete c|stats|set d 0 0 43|"+strings.Repeat("v", 43)+"|stats|",
		stored+"DELETED|DELETED|DELETED|"+statsOf(0, 0, 3, 0, 0, 0)+"STORED|"+statsOf(0, 0, 4, 0, 1, 60))
}

func TestIncr(t *testing.T) {
	annSays(t, "incr a 1|set b 0 0 1|1|incr a 1|get a|", "NOT FOUND|STORED|NOT FOUND|END|")
	for _, c := range []struct{ value, number, sum string }{
		{"0", "0", "0"}, {"0", "1", "1"}, {"7", "5", "12"}, {"9", "1", "10"}, {"10", "0", "10"}, {"99", "901", "1000"}, {"1", "999999999", "1000000000"},
		{"007", "0", "7"}, {"09", "1", "10"}, {"00", "0", "0"}, {"000000000", "0", "0"}, {"000000001", "9", "10"}, {"010", "10", "20"}, {"012345670", "1", "12345671"},
		{"123456789", "0", "123456789"}, {"999999999", "0", "999999999"}, {"999999999", "1", "1000000000"}, {"999999999", "999999999", "1999999998"},
	} {
		in := fmt.Sprintf("set a 3 0 %d|%s|incr a %s|get a|", len(c.value), c.value, c.number)
		annSays(t, in, fmt.Sprintf("STORED|%s|VALUE a 3 %d 2|%s|END|", c.sum, len(c.sum), c.sum))
	}
}

func TestIncrOfWhatIsNoNumber(t *testing.T) {
	for _, value := range []string{
		"", " ", "x", "-1", "+1", "-0", "1x", "x1", " 1", "1 ", "1_0", "1.0", "1e3", "0x1", "0b1", "0o7", "1,0", "1\r", "\r1", "1\n", "\n1", "\n", "1\x00", "\x00", "\xff", "/", ":", "1/", ":1", "٣", "²", "１", "NaN",
		"1234567890", "0000000000", "0000000001", "9999999999", "4294967296", "9223372036854775807", "18446744073709551617", strings.Repeat("1", 100), strings.Repeat("0", 100),
	} {
		s := dialled(t, 1, ann)
		s.Feed(0, fmt.Sprintf("auth ann x\nset a 3 0 %d\n%s\n", len(value), value))
		s.Take(0, 1000)
		for _, number := range []string{"0", "1", "999999999"} {
			says(t, s, 0, "incr a "+number+"|", "NOT NUMBER|")
		}
		says(t, s, 0, "get a|stats|", fmt.Sprintf("VALUE a 3 %d 1|%s|END|%s", len(value), barred(value), statsOf(1, 1, 1, 0, 1, 17+len(value))))
	}
	// What it made itself is one of 10 digits, too.
	annSays(t, "set a 0 0 9|999999999|incr a 1|incr a 1|get a|", "STORED|1000000000|NOT NUMBER|VALUE a 0 10 2|1000000000|END|")
	// A line that says no number is bad, whatever the value.
	annSays(t, "set a 0 0 1|1|incr a|incr a 01|incr a -1|incr a 1000000000|incr a x|incr a 1 1|get a|", "STORED|"+strings.Repeat("ERROR bad|", 6)+"VALUE a 0 1 1|1|END|")
}

func TestIncrStores(t *testing.T) {
	// The flags stay, the mark is the tenant's next, and cas goes by it.
	annSays(t, "set a 65535 0 1|1|set b 7 0 1|1|incr a 1|incr a 1|get a b|", "STORED|STORED|2|3|VALUE a 65535 1 4|3|VALUE b 7 1 2|1|END|")
	annSays(t, "set a 0 0 1|1|incr a 1|cas a 0 0 1 1|x|cas a 0 0 1 2|y|get a|", "STORED|2|EXISTS|STORED|VALUE a 0 1 3|y|END|")
	// Each is counted, and none that was refused.
	annSays(t, "set a 0 0 1|9|incr a 1|incr a 0|incr b 1|set c 0 0 1|x|incr c 1|stats|", "STORED|10|10|NOT FOUND|STORED|NOT NUMBER|"+statsOf(0, 0, 4, 0, 2, 19+18))
	// A shorter sum frees room.
	annSays(t, "set a 0 0 9|000000007|incr a 1|stats|", "STORED|8|"+statsOf(0, 0, 2, 0, 1, 18))
}

func TestIncrWithoutRoom(t *testing.T) {
	annWith(t, 18, "set a 7 0 1|9|incr a 1|incr a 999999999|get a|stats|", "STORED|TOO LARGE|TOO LARGE|VALUE a 7 1 1|9|END|"+statsOf(1, 1, 1, 0, 1, 18))
	annWith(t, 18, "set a 7 0 1|9|incr a 1|incr a 0|get a|", "STORED|TOO LARGE|9|VALUE a 7 1 2|9|END|")
	annWith(t, 19, "set a 7 0 1|9|incr a 90|incr a 1|get a|", "STORED|99|TOO LARGE|VALUE a 7 2 2|99|END|")
	annWith(t, 27, "set a 7 0 1|1|incr a 999999999|get a|", "STORED|1000000000|VALUE a 7 10 2|1000000000|END|")
	annWith(t, 26, "set a 7 0 1|1|incr a 999999999|get a|", "STORED|TOO LARGE|VALUE a 7 1 1|1|END|")
	// NOT NUMBER is told of a value that no sum of could be stored, too.
	annWith(t, 18, "set a 7 0 1|x|incr a 999999999|", "STORED|NOT NUMBER|")
}

func TestIncrEvictsOthers(t *testing.T) {
	annWith(t, 36, "set a 0 0 1|9|set b 0 0 1|9|incr a 1|get b a|stats|", "STORED|STORED|10|VALUE a 0 2 3|10|END|"+statsOf(2, 1, 3, 1, 1, 19))
	annWith(t, 37, "set a 0 0 1|9|set b 0 0 1|9|incr a 1|get b a|stats|", "STORED|STORED|10|VALUE b 0 1 2|9|VALUE a 0 2 3|10|END|"+statsOf(2, 2, 3, 0, 2, 37))
	annWith(t, 54, "set a 0 0 1|9|set b 0 0 1|9|set c 0 0 1|9|get b|incr a 1|get a b c|", "STORED|STORED|STORED|VALUE b 0 1 2|9|END|10|VALUE a 0 2 4|10|VALUE b 0 1 2|9|END|")
}

func TestTouch(t *testing.T) {
	annSays(t, "touch a 0|touch a 5|set b 0 0 0||touch a 5|get a|", "NOT FOUND|NOT FOUND|STORED|NOT FOUND|END|")
	for _, life := range []string{"0", "1", "999999", "1000000"} {
		annSays(t, "set a 7 0 1|1|touch a "+life+"|touch a "+life+"\r|get a|", "STORED|TOUCHED|TOUCHED|VALUE a 7 1 1|1|END|")
	}
	annSays(t, "set a 7 0 1|1|touch a|touch a 1000001|touch a 01|touch a x|touch a 1 1|", "STORED|"+strings.Repeat("ERROR bad|", 5))
	// It is no get, and stores nothing.
	annSays(t, "set a 7 5 1|1|touch a 5|stats|cas a 7 0 1 1|2|", "STORED|TOUCHED|"+statsOf(0, 0, 1, 0, 1, 18)+"STORED|")
}

func TestStatsOfGets(t *testing.T) {
	annSays(t, "stats|", statsOf(0, 0, 0, 0, 0, 0))
	annSays(t, "get a|stats|get a a b|stats\r|", "END|"+statsOf(1, 0, 0, 0, 0, 0)+"END|"+statsOf(4, 0, 0, 0, 0, 0))
	a := "VALUE a 0 1 1|1|"
	annSays(t, "set a 0 0 1|1|get a|stats|get a b a|stats|", "STORED|"+a+"END|"+statsOf(1, 1, 1, 0, 1, 18)+a+a+"END|"+statsOf(4, 3, 1, 0, 1, 18))
	annSays(t, "set a 0 0 1|1|get a a a a a b b b b b|delete a|get a|stats|", "STORED|"+strings.Repeat(a, 5)+"END|DELETED|END|"+statsOf(11, 5, 1, 0, 0, 0))
	// A bad line asks for nothing, nor do the other commands.
	annSays(t, "set a 0 0 1|1|get|get a |get a  b|add a 0 0 1|2|replace a 0 0 1|3|cas a 0 0 1 2|4|incr a 1|touch a 1|delete b|delete a|stats|stats|",
		"STORED|ERROR bad|ERROR bad|ERROR bad|NOT STORED|STORED|STORED|5|TOUCHED|NOT FOUND|DELETED|"+statsOf(0, 0, 4, 0, 0, 0)+statsOf(0, 0, 4, 0, 0, 0))
}

func TestStatsOfStores(t *testing.T) {
	s := dialled(t, 1, tenant("ann", "x", 40))
	says(t, s, 0, "auth ann x|", "OK|")
	large := " 0 0 30|" + strings.Repeat("v", 30) + "|"
	for _, c := range []struct {
		in, want             string
		stores, items, bytes int
	}{
		{"replace a 0 0 1|1|", "NOT STORED|", 0, 0, 0}, {"cas a 0 0 1 1|1|", "NOT FOUND|", 0, 0, 0}, {"incr a 1|", "NOT FOUND|", 0, 0, 0},
		{"set a" + large, "TOO LARGE|", 0, 0, 0}, {"add a" + large, "TOO LARGE|", 0, 0, 0}, {"set a 0 0 1|12|", "ERROR data|", 0, 0, 0}, {"set a 0 0 101|", "ERROR bad|", 0, 0, 0},
		{"set a 0 0 1|1|", "STORED|", 1, 1, 18}, {"set a 0 0 2|12|", "STORED|", 2, 1, 19}, {"add b 0 0 0||", "STORED|", 3, 2, 36},
		{"add b 0 0 1|1|", "NOT STORED|", 3, 2, 36}, {"replace a 0 0 3|123|", "STORED|", 4, 2, 37}, {"replace a" + large, "TOO LARGE|", 4, 2, 37},
		{"cas b 0 0 1 4|1|", "EXISTS|", 4, 2, 36 + 1}, {"cas b 0 0 2 3|99|", "STORED|", 5, 2, 39}, {"incr b 1|", "100|", 6, 2, 40}, {"touch b 1|", "TOUCHED|", 6, 2, 40},
		{"delete a|", "DELETED|", 6, 1, 20}, {"delete a|", "NOT FOUND|", 6, 1, 20}, {"delete b|", "DELETED|", 6, 0, 0},
	} {
		says(t, s, 0, c.in+"stats|", c.want+statsOf(0, 0, c.stores, 0, c.items, c.bytes))
	}
}

func TestStatsOfEvictions(t *testing.T) {
	s := dialled(t, 1, tenant("ann", "x", 100))
	says(t, s, 0, "auth ann x|", "OK|")
	for _, key := range []string{"a", "b", "c", "d", "e"} {
		says(t, s, 0, "set "+key+" 0 0 3|abc|", "STORED|")
	}
	says(t, s, 0, "set f 0 0 3|abc|stats|", "STORED|"+statsOf(0, 0, 6, 1, 5, 100))
	says(t, s, 0, "set g 0 0 50|"+strings.Repeat("g", 50)+"|stats|", "STORED|"+statsOf(0, 0, 7, 5, 2, 87))
	// Neither what goes as it is stored anew, nor what is deleted, is evicted.
	says(t, s, 0, "set g 0 0 3|abc|delete f|stats|", "STORED|DELETED|"+statsOf(0, 0, 8, 5, 1, 20))
	says(t, s, 0, "set h 0 0 83|"+strings.Repeat("h", 83)+"|stats|", "STORED|"+statsOf(0, 0, 9, 6, 1, 100))
	says(t, s, 0, "set h 0 0 84|"+strings.Repeat("h", 84)+"|stats|", "TOO LARGE|"+statsOf(0, 0, 9, 6, 1, 100))
}

func TestStatsOfATenantAlone(t *testing.T) {
	s := dialled(t, 4, tenant("ann", "x", 40), tenant("bob", "x", 40))
	says(t, s, 0, "auth ann x|set a 0 0 3|abc|get a b|", "OK|STORED|VALUE a 0 3 1|abc|END|")
	says(t, s, 1, "auth bob x|stats|", "OK|"+statsOf(0, 0, 0, 0, 0, 0))
	says(t, s, 1, "set a 0 0 2|ab|set b 0 0 2|ab|set c 0 0 2|ab|get a|stats|", "STORED|STORED|STORED|END|"+statsOf(1, 0, 3, 1, 2, 38))
	says(t, s, 0, "stats|", statsOf(2, 1, 1, 0, 1, 20))
	// Whichever of its connections asks, and whichever did what is counted.
	says(t, s, 2, "stats|auth ann x|stats|set b 0 0 3|abc|get a|", "ERROR auth|OK|"+statsOf(2, 1, 1, 0, 1, 20)+"STORED|VALUE a 0 3 1|abc|END|")
	says(t, s, 0, "stats|", statsOf(3, 2, 2, 0, 2, 40))
	says(t, s, 2, "auth bob x|stats|auth ann x|stats|quit|", "OK|"+statsOf(1, 0, 3, 1, 2, 38)+"OK|"+statsOf(3, 2, 2, 0, 2, 40))
	// They stay when no connection is left.
	for c := range 3 {
		wantHang(t, s, c, 0)
	}
	says(t, s, 3, "auth ann x|stats|", "OK|"+statsOf(3, 2, 2, 0, 2, 40))
}
