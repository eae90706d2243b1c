package cloakroom_test

import (
	"fmt"
	"math"
	"strings"
	"testing"

	"cloakroom/api"
	"cloakroom/cloakroom"
)

var ann, bob = tenant("ann", "x", 2000), tenant("bob", "y", 2000)

// dialled answers a server with some connections.
func dialled(t testing.TB, conns int, l ...api.Tenant) *cloakroom.Server {
	t.Helper()
	s, e := cloakroom.Open(l, 8)
	if s == nil || e != api.OK {
		t.Fatalf("P4: Open = %v, %d", s, e)
	}
	for range conns {
		s.Dial()
	}
	return s
}

// barred writes a bar for each newline, so that lines can be told in one.
func barred(text string) string { return strings.ReplaceAll(text, "\n", "|") }

func unbarred(text string) string { return strings.ReplaceAll(text, "|", "\n") }

// says feeds a connection, and looks at all that is answered. A bar stands for a newline.
func says(t *testing.T, s *cloakroom.Server, c int, in, want string) {
	t.Helper()
	e := s.Feed(c, unbarred(in))
	out, f := s.Take(c, math.MaxInt)
	if got := barred(out); got != want || e != api.OK || f != api.OK {
		t.Errorf("P6: %.300q is answered %q, %d, %d, want %q", in, got, e, f, want)
	}
}

// annSays is said on a new server, on a connection that belongs to ann.
func annSays(t *testing.T, in, want string) {
	t.Helper()
	says(t, dialled(t, 1, ann), 0, "auth ann x|"+in, "OK|"+want)
}

func TestFeedAndTakeWithoutConnection(t *testing.T) {
	s := dialled(t, 2, ann)
	s.Feed(0, "get a\n")
	s.Feed(1, "get a\n")
	s.Hang(1)
	for _, c := range []int{-1, 1, 2, 7, 8, 1 << 32, math.MaxInt, math.MinInt} {
		if e := s.Feed(c, "get a\n"); e != api.ErrNone {
			t.Errorf("P6: Feed(%d, ..) = %d, want ErrNone", c, e)
		}
		for _, n := range []int{-1, 0, 5, math.MaxInt} {
			if x, e := s.Take(c, n); x != "" || e != api.ErrNone {
				t.Errorf("P6: Take(%d, %d) = %q, %d, want ErrNone", c, n, x, e)
			}
		}
	}
	says(t, s, 0, "", "ERROR auth|")
}

func TestTake(t *testing.T) {
	s := dialled(t, 2, ann)
	take := func(c, n int, want string) {
		t.Helper()
		if x, e := s.Take(c, n); x != want || e != api.OK {
			t.Errorf("P6: Take(%d, %d) = %q, %d, want %q", c, n, x, e, want)
		}
	}
	take(0, 5, "")
	s.Feed(0, "auth ann x\nget a\n")
	s.Feed(1, "auth ann y\n")
	for _, n := range []int{-1, 0, math.MinInt, -1 << 32, -7} {
		take(0, n, "")
	}
	take(0, 1, "O")
	take(0, 3, "K\nE")
	take(1, 3, "DEN")
	s.Feed(0, "get b\n")
	take(0, 3, "ND\n") // as much as there was ahead of the last answer
	take(0, 4, "END\n")
	take(0, 1, "")
	s.Feed(0, "get b\n")
	take(0, 5, "END\n")
	take(0, math.MaxInt, "")
	take(1, 1<<40, "IED\n")
	take(1, 0, "")
}

func TestBytesComeBehindThoseThatAreThere(t *testing.T) {
	s := dialled(t, 2, ann)
	for _, c := range []struct{ in, want string }{
		{"au", ""}, {"", ""}, {"th ann", ""}, {" x", ""}, {"|", "OK|"},
		{"set a 1 0 5|", ""}, {"ab", ""}, {"cde", ""}, {"|get a|ge", "STORED|VALUE a 1 5 1|abcde|END|"}, {"t b|get", "END|"}, {" a\r", ""}, {"|", "VALUE a 1 5 1|abcde|END|"},
	} {
		says(t, s, 0, c.in, c.want)
		// The bytes of another connection do not come between.
		says(t, s, 1, "get", "")
		says(t, s, 1, " a|", "ERROR auth|")
	}
}

func TestByte13(t *testing.T) {
	annSays(t, "get a\r|", "END|")
	annSays(t, "\r|", "ERROR bad|")
	for _, line := range []string{"get a\r\r|", "get\r a|", "\rget a|", "get a\r |", "get a \r|"} {
		annSays(t, line, "ERROR bad|")
	}
	annSays(t, "set a 0 0 2\r|ab|get a|", "STORED|VALUE a 0 2 1|ab|END|")
	says(t, dialled(t, 1, ann), 0, "auth ann x\r|quit\r|get a|", "OK|")
	// It is a byte of a value like any other, and none that may stand behind one.
	annSays(t, "set a 0 0 2|a\r|get a|", "STORED|VALUE a 0 2 1|a\r|END|")
	annSays(t, "set a 0 0 2|ab\r|get a|", "ERROR data|END|")
	annSays(t, "set a 0 0 0|\r|get a|", "ERROR data|END|")
}

// The longest get has 10 keys; some are of 10 bytes, so that it may have any of these lengths.
func getOf(bytes int) string {
	line := "get" + strings.Repeat(" 1234567890", 10)
	return line + strings.Repeat("x", bytes-len(line))
}

func TestHowLongALineMayBe(t *testing.T) {
	for n := 113; n <= 120; n++ {
		annSays(t, getOf(n)+"|get a|", "END|END|")
	}
	annSays(t, getOf(119)+"\r|get a|", "END|END|")
	annSays(t, getOf(120)+"\r|get a|", "ERROR long|END|")
	annSays(t, getOf(121)+"|get a|", "ERROR long|END|")
	for _, n := range []int{121, 122, 123, 240, 241, 242, 1000} {
		x := strings.Repeat("x", n)
		annSays(t, x[:120]+"|get a|", "ERROR bad|END|")
		annSays(t, x+"|get a|", "ERROR long|END|")
		annSays(t, x+"\r|get a|", "ERROR long|END|")
		annSays(t, strings.Repeat(" ", n)+"|get a|", "ERROR long|END|")
		annSays(t, "quit"+strings.Repeat("\r", n)+"|get a|", "ERROR long|END|")
	}
	// That a line is too long is known of nobody's, too, and is told ahead of all else.
	says(t, dialled(t, 1, ann), 0, getOf(120)+"|"+getOf(121)+"|"+getOf(120)+"|", "ERROR auth|ERROR long|ERROR auth|")
}

func TestALineWithoutItsNewline(t *testing.T) {
	x := strings.Repeat("x", 1000)
	annSays(t, "get a", "")
	annSays(t, x[:120], "")
	annSays(t, x[:119]+"\r", "")
	for _, c := range []struct {
		there, then, want string // what is answered to both together
	}{
		{x[:120], "|", "ERROR bad|"}, {x[:119] + "\r", "|", "ERROR bad|"}, {getOf(120), "|", "END|"}, {getOf(119) + "\r", "|", "END|"}, {getOf(119), "\r|", "END|"},
		{x[:120], "x", "ERROR long|"}, {x[:120], "\r", "ERROR long|"}, {getOf(120), "\r|", "ERROR long|"}, {getOf(120), "\rget a|get a|", "ERROR long|END|"},
	} {
		s := dialled(t, 1, ann)
		says(t, s, 0, "auth ann x|"+c.there, "OK|")
		says(t, s, 0, c.then, c.want)
	}
}

func TestPassedOverBehindALongLine(t *testing.T) {
	s := dialled(t, 1, ann)
	says(t, s, 0, "auth ann x|"+strings.Repeat("x", 121), "OK|ERROR long|")
	for range 3 {
		says(t, s, 0, strings.Repeat("y", 500), "")
	}
	says(t, s, 0, " quit\r", "")
	says(t, s, 0, "", "")
	says(t, s, 0, "quit|get a|", "END|")
	says(t, s, 0, strings.Repeat("x", 200)+"||", "ERROR long|ERROR bad|")
	says(t, s, 0, strings.Repeat(strings.Repeat("x", 121)+"|", 3), "ERROR long|ERROR long|ERROR long|")
	// No value is wanted behind it.
	says(t, s, 0, "set a 0 0 3 "+strings.Repeat(" ", 121)+"|get|get a|", "ERROR long|ERROR bad|END|")
}

func TestValues(t *testing.T) {
	hundred := strings.Repeat("0123456789", 10)
	annSays(t, "set a 0 0 0||get a|", "STORED|VALUE a 0 0 1||END|")
	annSays(t, "set a 0 0 100|"+hundred+"|get a|", "STORED|VALUE a 0 100 1|"+hundred+"|END|")
	annSays(t, "set a 0 0 1|||get a|", "STORED|VALUE a 0 1 1|||END|")
	newlines := strings.Repeat("|", 100)
	annSays(t, "set a 0 0 100|"+newlines+"|get a|", "STORED|VALUE a 0 100 1|"+newlines+"|END|")
	annSays(t, "set a 0 0 9|quit|quit|get a|", "STORED|VALUE a 0 9 1|quit|quit|END|")
	annSays(t, "set a 0 0 8|quit|quit|get a|", "ERROR data|END|")
	annSays(t, "set a 0 0 4|quit|quit|get a|", "STORED|")
	var bytes []byte
	for b := range 256 {
		bytes = append(bytes, byte(b))
	}
	for i := 0; i+64 <= 256; i += 64 {
		s := dialled(t, 1, ann)
		s.Feed(0, "auth ann x\nset a 0 0 64\n"+string(bytes[i:i+64])+"\nget a\n")
		want := "OK\nSTORED\nVALUE a 0 64 1\n" + string(bytes[i:i+64]) + "\nEND\n"
		if got, _ := s.Take(0, math.MaxInt); got != want {
			t.Errorf("P6: the bytes from %d on are answered %q, want %q", i, got, want)
		}
	}
}

func TestAValueThatIsNotThereYet(t *testing.T) {
	for _, size := range []int{0, 1, 2, 99, 100} {
		s := dialled(t, 1, ann)
		says(t, s, 0, fmt.Sprintf("auth ann x|set a 0 0 %d|", size), "OK|")
		for range size {
			says(t, s, 0, "v", "")
		}
		says(t, s, 0, "", "")
		says(t, s, 0, "|", "STORED|")
		says(t, s, 0, "get a|", fmt.Sprintf("VALUE a 0 %d 1|%s|END|", size, strings.Repeat("v", size)))
	}
}

func TestPassedOverBehindAValue(t *testing.T) {
	annSays(t, "set k 0 0 2|abc|get k|", "ERROR data|END|")
	for _, name := range []string{"set", "add", "replace"} {
		annSays(t, name+" a 0 0 2|abc|get a|", "ERROR data|END|")
		annSays(t, name+" a 0 0 0|"+strings.Repeat("v", 500)+"|get a|", "ERROR data|END|")
	}
	annSays(t, "cas a 0 0 2 1|abc|get a|", "ERROR data|END|")
	annSays(t, "set a 0 0 1|1|cas a 0 0 2 1|abc|get a|", "STORED|ERROR data|VALUE a 0 1 1|1|END|")
	// The newline is looked for behind the value: one in it is not the one.
	annSays(t, "set a 0 0 4|abc|get a|", "ERROR data|")
	annSays(t, "set a 0 0 4|abc|get a||", "ERROR data|ERROR bad|")
	annSays(t, "set a 0 0 3|||||get a|", "STORED|VALUE a 0 3 1|||||END|")
	annSays(t, "set a 0 0 3||||x|get a|", "ERROR data|END|")
	s := dialled(t, 1, ann)
	says(t, s, 0, "auth ann x|set a 0 0 3|abcd", "OK|ERROR data|")
	says(t, s, 0, strings.Repeat("x", 121), "")
	says(t, s, 0, strings.Repeat("x", 121)+"|get a|", "END|")
	// It is told at once, and takes no mark.
	says(t, s, 0, "set a 0 0 3|abc|get a|", "STORED|VALUE a 0 3 1|abc|END|")
}

func TestAuth(t *testing.T) {
	s := dialled(t, 1, ann, bob)
	says(t, s, 0, "auth ann y|auth bob x|auth dan x|auth ann X|auth Ann x|auth anna x|auth an x|auth ann xx|", strings.Repeat("DENIED|", 8))
	says(t, s, 0, "auth !!!!!!!! ~~~~~~~~~~~~~~~~|get a|", "DENIED|ERROR auth|")
	says(t, s, 0, "auth ann x|set a 1 0 1|1|", "OK|STORED|")
	says(t, s, 0, "auth ann y|auth bob x|get a|", "DENIED|DENIED|VALUE a 1 1 1|1|END|")
	says(t, s, 0, "auth bob y|get a|set a 2 0 1|2|get a|", "OK|END|STORED|VALUE a 2 1 1|2|END|")
	says(t, s, 0, "auth ann x|get a|auth ann x|get a|", "OK|VALUE a 1 1 1|1|END|OK|VALUE a 1 1 1|1|END|")
	says(t, s, 0, "auth ann|auth ann x |auth  ann x|AUTH ann x|auth ann x y|auth abcdefghi x|auth ann 12345678901234567|", strings.Repeat("ERROR bad|", 7))
}

func TestEachTenantByItsNameAndToken(t *testing.T) {
	l := []api.Tenant{tenant("a", "!", 100), tenant("abcdefgh", "1234567890123456", 100), tenant("c", "~", 100), tenant("d", "same", 100), tenant("e", "same", 100)}
	for _, one := range l {
		for _, other := range l {
			want := "DENIED|"
			if one.Token == other.Token {
				want = "OK|"
			}
			says(t, dialled(t, 1, l...), 0, "auth "+one.Name+" "+other.Token+"|", want)
		}
	}
}

func TestQuit(t *testing.T) {
	for _, in := range []string{"quit|", "quit\r|", "quit|quit|", "quit|get a|auth ann x|", "quit|\r||" + strings.Repeat("x", 500) + "|set a 0 0 1|1|"} {
		says(t, dialled(t, 1, ann), 0, in, "")
		annSays(t, in, "")
	}
	s := dialled(t, 2, ann)
	says(t, s, 0, "auth ann x|set a 0 0 1|1|quit|", "OK|STORED|")
	says(t, s, 0, "get a|", "")
	says(t, s, 0, "auth ann x|", "")
	says(t, s, 0, strings.Repeat("x", 1000000), "")
	says(t, s, 1, "quit now|Quit|", "ERROR auth|ERROR auth|")
	says(t, s, 1, "auth ann x|quit now|get a|", "OK|ERROR bad|VALUE a 0 1 1|1|END|")
	// What was answered ahead can still be taken.
	s.Feed(1, "get a\nquit\n")
	for _, want := range []string{"VALUE a 0", " 1 1\n1\nEN", "D\n", ""} {
		if x, e := s.Take(1, 9); x != want || e != api.OK {
			t.Errorf("P6: Take of one that has quit = %q, %d, want %q", x, e, want)
		}
	}
}

func TestLinesOfNobody(t *testing.T) {
	s := dialled(t, 1, ann)
	for _, line := range []string{"get a", "set a 0 0 3", "abc", "add a 0 0 0", "replace a 0 0 1", "cas a 0 0 1 1", "delete a", "incr a 1", "touch a 1", "stats", "", " ", "\r", "nothing", "auth", "auth ann", "auth ann x ", "get  a", "\x00", "\xff", "é"} {
		says(t, s, 0, line+"|", "ERROR auth|")
	}
	// No value was wanted.
	says(t, s, 0, "set a 0 0 10|auth ann x|get a|", "ERROR auth|OK|END|")
}

func TestBadLines(t *testing.T) {
	s := dialled(t, 1, ann)
	says(t, s, 0, "auth ann x|", "OK|")
	for _, line := range []string{"", " ", "nothing", "get", "get ", " get a", "get a ", "get  a", "get a b c d e f g h i j k", "get 123456789012345678901", "set a 0 0", "set a 0 0 101", "set a 65536 0 1", "set a 0 1000001 1", "set a 0 0 01", "set a -1 0 1", "cas a 0 0 1", "cas a 0 0 1 1000000000", "set a 0 0 1 1", "stats now", "\x00", "get \xff", "get é"} {
		says(t, s, 0, line+"|", "ERROR bad|")
	}
	// No value was wanted.
	says(t, s, 0, "set a 0 0 101|get a|", "ERROR bad|END|")
}

func TestExamples(t *testing.T) {
	s := dialled(t, 1, tenant("ann", "x", 100))
	says(t, s, 0, "get a|", "ERROR auth|")
	says(t, s, 0, "auth ann y|", "DENIED|")
	says(t, s, 0, "auth ann x|", "OK|")
	says(t, s, 0, "set a 7 0 3|abc|", "STORED|")
	says(t, s, 0, "get a b|", "VALUE a 7 3 1|abc|END|")
	says(t, s, 0, "add a 0 0 1|x|", "NOT STORED|")
	says(t, s, 0, "incr a 1|", "NOT NUMBER|")
	for _, key := range []string{"b", "c", "d", "e"} {
		says(t, s, 0, "set "+key+" 7 0 3|abc|", "STORED|")
	}
	says(t, s, 0, "get a|", "VALUE a 7 3 1|abc|END|")
	says(t, s, 0, "set f 7 0 3|abc|", "STORED|")
	says(t, s, 0, "stats|", "gets 3|hits 2|stores 6|evicted 1|expired 0|items 5|bytes 100|END|")
	says(t, s, 0, "get b|", "END|")
	s = dialled(t, 1, ann)
	says(t, s, 0, "auth ann x|set n 0 5 2|09|incr n 1|", "OK|STORED|10|")
	wantTick(t, s, 4, api.OK)
	says(t, s, 0, "get n|", "VALUE n 0 2 2|10|END|")
	wantTick(t, s, 1, api.OK)
	says(t, s, 0, "get n|", "END|")
	annSays(t, "set k 0 0 2|abc|get k|", "ERROR data|END|")
}

func TestGet(t *testing.T) {
	annSays(t, "get a|", "END|")
	stored := "set a 1 0 1|1|set b 2 0 2|22|set 12345678901234567890 65535 1000000 3|333|"
	answered := strings.Repeat("STORED|", 3)
	a, b, c := "VALUE a 1 1 1|1|", "VALUE b 2 2 2|22|", "VALUE 12345678901234567890 65535 3 3|333|"
	annSays(t, stored+"get a|get b|get 12345678901234567890|", answered+a+"END|"+b+"END|"+c+"END|")
	annSays(t, stored+"get b a|get a x b|get x y|get A|", answered+b+a+"END|"+a+b+"END|END|END|")
	annSays(t, stored+"get a a b a|", answered+a+a+b+a+"END|")
	annSays(t, stored+"get x a x a x a x a x 12345678901234567890|", answered+a+a+a+a+c+"END|")
}

func TestSet(t *testing.T) {
	annSays(t, "set a 1 0 1|1|get a|set a 2 0 2|22|get a|", "STORED|VALUE a 1 1 1|1|END|STORED|VALUE a 2 2 2|22|END|")
	s := dialled(t, 1, tenant("ann", "x", 116))
	says(t, s, 0, "auth ann x|set a 1 0 3|abc|", "OK|STORED|")
	v := strings.Repeat("v", 99)
	says(t, s, 0, "set a 2 0 100|"+v+"v|get a|", "TOO LARGE|VALUE a 1 3 1|abc|END|")
	says(t, s, 0, "set aa 2 0 99|"+v+"|get aa a|", "TOO LARGE|VALUE a 1 3 1|abc|END|")
	says(t, s, 0, "set a 2 0 99|"+v+"|get a|", "STORED|VALUE a 2 99 2|"+v+"|END|")
}

func TestAdd(t *testing.T) {
	annSays(t, "add a 1 0 1|1|get a|add a 2 0 1|2|get a|add b 3 0 0||get b|",
		"STORED|VALUE a 1 1 1|1|END|NOT STORED|VALUE a 1 1 1|1|END|STORED|VALUE b 3 0 2||END|")
	s := dialled(t, 1, tenant("ann", "x", 20))
	says(t, s, 0, "auth ann x|add a 0 0 4|1234|get a|", "OK|TOO LARGE|END|")
	says(t, s, 0, "add a 0 0 3|123|add a 0 0 4|1234|", "STORED|NOT STORED|")
}

func TestReplace(t *testing.T) {
	annSays(t, "replace a 1 0 1|1|get a|set a 2 0 1|2|replace a 3 0 2|33|get a|",
		"NOT STORED|END|STORED|STORED|VALUE a 3 2 2|33|END|")
	s := dialled(t, 1, tenant("ann", "x", 20))
	says(t, s, 0, "auth ann x|replace a 0 0 4|1234|set a 5 0 3|123|", "OK|NOT STORED|STORED|")
	says(t, s, 0, "replace a 0 0 4|1234|get a|", "TOO LARGE|VALUE a 5 3 1|123|END|")
}

func TestCas(t *testing.T) {
	annSays(t, "cas a 1 0 1 1|1|cas a 1 0 1 0|1|get a|", "NOT FOUND|NOT FOUND|END|")
	s := dialled(t, 1, tenant("ann", "x", 60))
	says(t, s, 0, "auth ann x|set a 0 0 3|123|set b 0 0 3|123|", "OK|STORED|STORED|")
	for _, mark := range []string{"0", "2", "3", "999999999"} {
		says(t, s, 0, "cas a 9 0 1 "+mark+"|9|get a|", "EXISTS|VALUE a 0 3 1|123|END|")
	}
	says(t, s, 0, "cas a 7 0 2 1|77|get a b|", "STORED|VALUE a 7 2 3|77|VALUE b 0 3 2|123|END|")
	says(t, s, 0, "cas a 8 0 2 1|88|cas a 8 0 2 3|88|get a|", "EXISTS|STORED|VALUE a 8 2 4|88|END|")
	says(t, s, 0, "cas a 9 0 44 3|"+strings.Repeat("v", 44)+"|", "EXISTS|")
	says(t, s, 0, "cas a 9 0 44 4|"+strings.Repeat("v", 44)+"|get a|", "TOO LARGE|VALUE a 8 2 4|88|END|")
	says(t, s, 0, "cas c 9 0 44 4|"+strings.Repeat("v", 44)+"|", "NOT FOUND|")
}

func TestMarks(t *testing.T) {
	s := dialled(t, 2, tenant("ann", "x", 40), bob)
	says(t, s, 0, "auth ann x|", "OK|")
	says(t, s, 1, "auth bob y|", "OK|")
	// Only what is stored takes a mark, whichever command and key it is of.
	says(t, s, 0, "set a 0 0 1|1|set a 0 0 1|2|add b 0 0 1|3|get a b|", "STORED|STORED|STORED|VALUE a 0 1 2|2|VALUE b 0 1 3|3|END|")
	says(t, s, 0, "add a 0 0 1|x|replace c 0 0 1|x|cas a 0 0 1 1|x|cas c 0 0 1 1|x|set a 0 0 99|"+strings.Repeat("x", 99)+"|set a 0 0 1|xx|set a 0 0 x|", "NOT STORED|NOT STORED|EXISTS|NOT FOUND|TOO LARGE|ERROR data|ERROR bad|")
	says(t, s, 0, "replace a 0 0 1|4|cas b 0 0 1 3|5|get a b|", "STORED|STORED|VALUE a 0 1 4|4|VALUE b 0 1 5|5|END|")
	says(t, s, 1, "set a 0 0 1|1|get a|", "STORED|VALUE a 0 1 1|1|END|")
	for mark := 6; mark < 1200; mark++ {
		says(t, s, 0, "set a 0 0 1|v|get a|", fmt.Sprintf("STORED|VALUE a 0 1 %d|v|END|", mark))
	}
	// All connections of a tenant have its entries and its marks.
	says(t, s, 1, "auth ann x|get a|set c 0 0 0||", "OK|VALUE a 0 1 1199|v|END|STORED|")
	says(t, s, 0, "get c|", "VALUE c 0 0 1200||END|")
}

func TestRoomForTheNewOne(t *testing.T) {
	s := dialled(t, 1, tenant("ann", "x", 100))
	says(t, s, 0, "auth ann x|", "OK|")
	for _, key := range []string{"a", "b", "c", "d", "e"} {
		says(t, s, 0, "set "+key+" 0 0 3|123|", "STORED|")
	}
	says(t, s, 0, "get a|set f 0 0 3|123|get b|", "VALUE a 0 3 1|123|END|STORED|END|")
	says(t, s, 0, "set c 0 0 3|456|set g 0 0 3|123|get d e|", "STORED|STORED|VALUE e 0 3 5|123|END|")
	says(t, s, 0, "get a c e f g|", "VALUE a 0 3 1|123|VALUE c 0 3 7|456|VALUE e 0 3 5|123|VALUE f 0 3 6|123|VALUE g 0 3 8|123|END|")
}

func TestHangForgetsAll(t *testing.T) {
	for _, ahead := range []string{"get", "auth ann x|set a 0 0 3|", "auth ann x|set a 0 0 3|ab", strings.Repeat("x", 121), "auth ann x|set a 0 0 0|abc", "quit|", "auth ann x|get a|"} {
		s := dialled(t, 2, ann)
		s.Feed(0, unbarred(ahead))
		s.Hang(0)
		wantDial(t, s, 0, api.OK)
		says(t, s, 0, " a|get a|", "ERROR auth|ERROR auth|")
	}
	s := dialled(t, 2, ann)
	says(t, s, 0, "auth ann x|set a 0 0 1|1|", "OK|STORED|")
	s.Hang(0)
	says(t, s, 1, "auth ann x|get a|", "OK|VALUE a 0 1 1|1|END|") // the tenant's entries stay
}

func TestFeedOfAnyLength(t *testing.T) {
	s := dialled(t, 1, ann)
	says(t, s, 0, "auth ann x|"+strings.Repeat("x", 9000000), "OK|ERROR long|")
	says(t, s, 0, strings.Repeat("\x00", 9000000)+"|get a|", "END|")
	says(t, s, 0, "set a 0 0 100|"+strings.Repeat("\xff", 9000000)+"|get a|", "ERROR data|END|")
	many := strings.Repeat("set a 0 0 1\n1\nset b 0 0 1\n2\nget a\n", 100000)
	s.Feed(0, many)
	x, _ := s.Take(0, math.MaxInt)
	if n := strings.Count(x, "STORED\n"); n != 200000 || !strings.HasSuffix(x, "VALUE a 0 1 199999\n1\nEND\n") {
		t.Errorf("P6: of 200,000 sets %d stored, and the last answers are %q", n, x[max(0, len(x)-40):])
	}
}
