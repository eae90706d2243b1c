package command

import (
	"slices"
	"strings"
	"testing"
)

func TestWordsOfACommand(t *testing.T) {
	for _, want := range [][]string{
		{"quit"},
		{"auth", "ann", "x"},
		{"get", "a", "b", "a"},
		{"cas", "k", "65535", "1000000", "100", "999999999"},
	} {
		got, ok := Words(strings.Join(want, " "))
		if !ok || !slices.Equal(got, want) {
			t.Errorf("Words of %q = %q, %v", want, got, ok)
		}
	}
}

func TestNoWordsOfABadLine(t *testing.T) {
	for _, line := range []string{"", " ", "get", "get a ", "stats x", "what", "get a\n"} {
		if got, ok := Words(line); ok || got != nil {
			t.Errorf("Words(%q) = %q, %v, want none", line, got, ok)
		}
	}
}

func TestNumberOf(t *testing.T) {
	for word, want := range map[string]int{"0": 0, "7": 7, "10": 10, "999999999": 999999999} {
		if n, ok := numberOf(word); !ok || n != want {
			t.Errorf("numberOf(%q) = %d, %v, want %d", word, n, ok, want)
		}
	}
	for _, word := range []string{"", "00", "01", "-1", "+1", "1_0", "0x1", "1e3", "1.0", "\u0661", "1000000000", "4294967296", "18446744073709551616", strings.Repeat("9", 1000)} {
		if n, ok := numberOf(word); ok || n != 0 {
			t.Errorf("numberOf(%q) = %d, %v, want none", word, n, ok)
		}
	}
}
