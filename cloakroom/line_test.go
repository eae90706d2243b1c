package cloakroom_test

import (
	"regexp"
	"strconv"
	"strings"
	"testing"

	"cloakroom/cloakroom"
)

func wantLine(t *testing.T, line, want string) {
	t.Helper()
	if got := cloakroom.Line(line); got != want {
		t.Errorf("P3: Line(%.200q) = %q, want %q", line, got, want)
	}
}

func TestLineExamples(t *testing.T) {
	wantLine(t, "get a b", "get")
	wantLine(t, "auth a b", "auth")
	for _, line := range []string{"get", "", " quit", "set k 0 0 101", "set k 0 0 07", "quit now"} {
		wantLine(t, line, "bad")
	}
}

// A column is what one word of a command may be: some that are allowed, to the bound, and some that are not, from one beyond it.
type column struct{ good, bad []string }

func textColumn(most int) column {
	return column{
		good: []string{"k", "!", "~", "7", "-1", "get", strings.Repeat("k", most)},
		bad:  []string{"", "\x00", "\t", "\n", "\r", "\x1f", "\x7f", "\x80", "\xff", "k\n", "k\r", "\nk", "é", "k\x00k", strings.Repeat("k", most+1), strings.Repeat("k", 100000)},
	}
}

func numberColumn(most int) column {
	return column{
		good: []string{"0", "1", "9", "10", strconv.Itoa(most - 1), strconv.Itoa(most)},
		bad:  []string{"", "00", "01", "0" + strconv.Itoa(most), "-0", "-1", "+1", "1x", "x", "0x1", "1_0", "1.0", "1e1", "1\n", "1\r", "\t1", "٣", strconv.Itoa(most + 1), strconv.Itoa(most) + "0", "4294967296", "4294967297", "9223372036854775808", "18446744073709551616", "18446744073709551617", strings.Repeat("1", 100000)},
	}
}

func columnsOf() map[string][]column {
	key, life := textColumn(20), numberColumn(1000000)
	store := []column{key, numberColumn(65535), life, numberColumn(100)}
	mark := numberColumn(999999999)
	return map[string][]column{
		"auth": {textColumn(8), textColumn(16)}, "quit": nil, "stats": nil,
		"set": store, "add": store, "replace": store, "cas": append(append([]column(nil), store...), mark),
		"delete": {key}, "incr": {key, mark}, "touch": {key, life},
	}
}

// withWord answers words that are allowed in these columns, but with this one at the place i.
func withWord(columns []column, i int, word string) []string {
	words := make([]string, len(columns))
	for j, c := range columns {
		words[j] = c.good[0]
	}
	words[i] = word
	return words
}

func TestLineEachWordAtItsBounds(t *testing.T) {
	for name, columns := range columnsOf() {
		for i, c := range columns {
			for _, word := range c.good {
				wantLine(t, name+" "+strings.Join(withWord(columns, i, word), " "), name)
			}
			for _, word := range c.bad {
				wantLine(t, name+" "+strings.Join(withWord(columns, i, word), " "), "bad")
			}
		}
	}
}

func TestLineHowManyWords(t *testing.T) {
	for name, columns := range columnsOf() {
		for n := range 15 {
			want := "bad"
			if n == len(columns) {
				want = name
			}
			// 7 may stand for any word of any command.
			wantLine(t, name+strings.Repeat(" 7", n), want)
		}
	}
}

func TestLineKeysOfGet(t *testing.T) {
	key := textColumn(20)
	for n := range 15 {
		want := "get"
		if n < 1 || n > 10 {
			want = "bad"
		}
		wantLine(t, "get"+strings.Repeat(" a", n), want)
		wantLine(t, "get"+strings.Repeat(" 12345678901234567890", n), want)
		for i := range min(n, 10) {
			for _, word := range key.bad {
				wantLine(t, "get"+strings.Repeat(" a", i)+" "+word+strings.Repeat(" a", n-1-i), "bad")
			}
		}
	}
}

func TestLineBlanksAndEnds(t *testing.T) {
	for _, line := range []string{"quit", "stats", "get a b", "auth a b", "set k 0 0 0", "cas k 0 0 0 0", "delete k", "incr k 1", "touch k 1"} {
		name, _, _ := strings.Cut(line, " ")
		wantLine(t, line, name)
		for _, end := range []string{" ", "  ", "\n", "\r", "\r\n", "\t", "\x00"} {
			wantLine(t, line+end, "bad")
			wantLine(t, end+line, "bad")
		}
		wantLine(t, line+"\n"+line, "bad")
		if strings.Contains(line, " ") {
			wantLine(t, strings.Replace(line, " ", "  ", 1), "bad")
			wantLine(t, strings.Replace(line, " ", "\t", 1), "bad")
			wantLine(t, strings.Replace(line, " ", "\n", 1), "bad")
		}
	}
}

func TestLineNoCommand(t *testing.T) {
	for _, name := range []string{"", "bad", "Get", "GET", "gets", "ge", "value", "end", "decr", "quit\x00", "\x00quit", "quıt", "s\xffet"} {
		for n := range 6 {
			wantLine(t, name+strings.Repeat(" 7", n), "bad")
		}
	}
}

func TestLineOfAnyLength(t *testing.T) {
	const many = 3000000
	for _, s := range []string{" ", "x", "7", "0", "\n", "\r", "\x00", "\xff", "é", " a", "quit", "get a "} {
		long := strings.Repeat(s, many)
		for _, line := range []string{long, "get " + long, "set " + long, "set k " + long + " 0 0", "auth " + long + " x", "quit" + long, "get a" + long} {
			wantLine(t, line, "bad")
		}
	}
}

var forms = []struct {
	name  string
	form  *regexp.Regexp
	bound []int
}{
	{"auth", regexp.MustCompile(`^auth [!-~]{1,8} [!-~]{1,16}$`), nil},
	{"quit", regexp.MustCompile(`^quit$`), nil},
	{"get", regexp.MustCompile(`^get( [!-~]{1,20}){1,10}$`), nil},
	{"set", regexp.MustCompile(`^set [!-~]{1,20} (0|[1-9]\d{0,8}) (0|[1-9]\d{0,8}) (0|[1-9]\d{0,8})$`), []int{65535, 1000000, 100}},
	{"add", regexp.MustCompile(`^add [!-~]{1,20} (0|[1-9]\d{0,8}) (0|[1-9]\d{0,8}) (0|[1-9]\d{0,8})$`), []int{65535, 1000000, 100}},
	{"replace", regexp.MustCompile(`^replace [!-~]{1,20} (0|[1-9]\d{0,8}) (0|[1-9]\d{0,8}) (0|[1-9]\d{0,8})$`), []int{65535, 1000000, 100}},
	{"cas", regexp.MustCompile(`^cas [!-~]{1,20} (0|[1-9]\d{0,8}) (0|[1-9]\d{0,8}) (0|[1-9]\d{0,8}) (0|[1-9]\d{0,8})$`), []int{65535, 1000000, 100, 999999999}},
	{"delete", regexp.MustCompile(`^delete [!-~]{1,20}$`), nil},
	{"incr", regexp.MustCompile(`^incr [!-~]{1,20} (0|[1-9]\d{0,8})$`), []int{999999999}},
	{"touch", regexp.MustCompile(`^touch [!-~]{1,20} (0|[1-9]\d{0,8})$`), []int{1000000}},
	{"stats", regexp.MustCompile(`^stats$`), nil},
}

// lineByForms tells P3 in another way than the program does.
func lineByForms(line string) string {
	for _, f := range forms {
		found := f.form.FindStringSubmatch(line)
		if found == nil {
			continue
		}
		for i, most := range f.bound {
			if n, _ := strconv.Atoi(found[i+1]); n > most {
				return "bad"
			}
		}
		return f.name
	}
	return "bad"
}

// Every line that is one byte away from one of these: a byte gone, another one, one more.
func TestLineOneByteAway(t *testing.T) {
	good := 0
	for _, line := range []string{
		"", "quit", "stats", "auth 12345678 1234567890123456", "auth a b",
		"get k", "get a b c d e f g h i j", "get 12345678901234567890 k",
		"set k 65535 1000000 100", "set 12345678901234567890 1 1 1", "add k 9999 99999 99", "replace k 0 10 20",
		"cas k 65535 1000000 100 999999999", "cas k 0 0 0 0", "delete 12345678901234567890", "delete k",
		"incr k 99999999", "incr k 999999999", "touch k 1000000", "touch k 0",
	} {
		for i := range len(line) + 1 {
			near := []string{line[:i]}
			for b := range 256 {
				near = append(near, line[:i]+string([]byte{byte(b)})+line[i:])
				if i < len(line) {
					near = append(near, line[:i]+string([]byte{byte(b)})+line[i+1:])
				}
			}
			if i < len(line) {
				near = append(near, line[:i]+line[i+1:])
			}
			for _, s := range near {
				want := lineByForms(s)
				wantLine(t, s, want)
				if want != "bad" {
					good++
				}
			}
		}
	}
	if good < 1000 {
		t.Errorf("only %d of the lines were not bad: the forms are wrong", good)
	}
}

func FuzzLine(f *testing.F) {
	for _, line := range []string{"get a b", "set k 0 0 7", "cas k 1 2 3 4", "incr k 10", "auth a b", "quit\r"} {
		f.Add(line)
	}
	f.Fuzz(func(t *testing.T, line string) { wantLine(t, line, lineByForms(line)) })
}
