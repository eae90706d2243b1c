package command

import (
	"slices"
	"strings"
	"testing"
)

func TestReadACommand(t *testing.T) {
	for line, want := range map[string]Command{
		"quit":       {Name: "quit"},
		"auth ann x": {Name: "auth", Texts: []string{"ann", "x"}},
		"auth 1 2":   {Name: "auth", Texts: []string{"1", "2"}},
		"get a 7 a":  {Name: "get", Texts: []string{"a", "7", "a"}},
		"incr 5 6":   {Name: "incr", Texts: []string{"5"}, Numbers: []int{6}},
		"set k 0 1 2": {
			Name: "set", Texts: []string{"k"}, Numbers: []int{0, 1, 2}},
		"cas 3 65535 1000000 100 999999999": {
			Name: "cas", Texts: []string{"3"}, Numbers: []int{65535, 1000000, 100, 999999999}},
	} {
		got, ok := Read(line)
		if !ok || got.Name != want.Name || !slices.Equal(got.Texts, want.Texts) || !slices.Equal(got.Numbers, want.Numbers) {
			t.Errorf("Read(%q) = %+v, %v, want %+v", line, got, ok, want)
		}
	}
}

func TestNothingReadOfABadLine(t *testing.T) {
	for _, line := range []string{"", " ", "get", "get a ", "stats x", "what", "get a\n", "set k 1 2 101"} {
		if got, ok := Read(line); ok || got.Name != "" || got.Texts != nil || got.Numbers != nil {
			t.Errorf("Read(%q) = %+v, %v, want nothing", line, got, ok)
		}
	}
}

func TestCommandsThatStore(t *testing.T) {
	for _, line := range []string{"set k 7 8 9", "add k 7 8 9", "replace k 7 8 9", "cas k 7 8 9 10"} {
		c, _ := Read(line)
		if !c.Stores() || c.Key() != "k" || c.Flags() != 7 || c.Life() != 8 || c.Size() != 9 {
			t.Errorf("%q: stores: %v, %+v", line, c.Stores(), c)
		}
	}
	if c, _ := Read("cas k 7 8 9 10"); c.Mark() != 10 {
		t.Errorf("the mark of a cas is %d, not 10", c.Mark())
	}
	for _, line := range []string{"auth a b", "quit", "get a", "delete a", "incr a 1", "touch a 1", "stats", "bad"} {
		if c, _ := Read(line); c.Stores() {
			t.Errorf("%q stores", line)
		}
	}
}

func TestWhatTheOthersSay(t *testing.T) {
	if c, _ := Read("touch k 5"); c.Key() != "k" || c.Life() != 5 {
		t.Errorf("touch k 5: %+v, with the life %d", c, c.Life())
	}
	if c, _ := Read("incr k 6"); c.Key() != "k" || c.Number() != 6 {
		t.Errorf("incr k 6: %+v, with the number %d", c, c.Number())
	}
	if c, _ := Read("delete k"); c.Key() != "k" {
		t.Errorf("delete k: %+v", c)
	}
}

func TestNumberOf(t *testing.T) {
	for word, want := range map[string]int{"0": 0, "7": 7, "10": 10, "999999999": 999999999} {
		if n, ok := numberOf(word); !ok || n != want {
			t.Errorf("numberOf(%q) = %d, %v, want %d", word, n, ok, want)
		}
	}
	for _, word := range []string{"", "00", "01", "-1", "+1", "1_0", "0x1", "1e3", "1.0", "\u0661", "1000000000", "4294967296", "18446744073709551616", strings.Repeat("9", 1000)} {
		if n, ok := numberOf(word); ok || n != 0 {
			t.Errorf("numberOf(%q) = %d, %v, want none", word, n, ok)
		}
	}
}
