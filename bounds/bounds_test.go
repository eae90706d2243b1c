package bounds

import (
	"strings"
	"testing"
)

func TestEachByte(t *testing.T) {
	for b := range 256 {
		s := string([]byte{byte(b)})
		if got, want := Word(s, 1), b >= 33 && b <= 126; got != want {
			t.Errorf("Word of the byte %d = %v", b, got)
		}
		if got, want := Letters(s, 1), strings.Contains("abcdefghijklmnopqrstuvwxyz", s); got != want {
			t.Errorf("Letters of the byte %d = %v", b, got)
		}
		if got, want := Digits(s, 1), strings.Contains("0123456789", s); got != want {
			t.Errorf("Digits of the byte %d = %v", b, got)
		}
		// The first, a middle and the last byte must all be looked at.
		for _, around := range []string{s + "aa", "a" + s + "a", "aa" + s} {
			if Word(around, 3) != Word(s, 1) || Letters(around, 3) != Letters(s, 1) {
				t.Errorf("%q: not as its byte %d", around, b)
			}
		}
		for _, around := range []string{s + "11", "1" + s + "1", "11" + s} {
			if Digits(around, 3) != Digits(s, 1) {
				t.Errorf("%q: not as its byte %d", around, b)
			}
		}
	}
}

func TestLengths(t *testing.T) {
	for most := range 25 {
		for n := range 30 {
			s, want := strings.Repeat("a", n), n >= 1 && n <= most
			if Word(s, most) != want || Letters(s, most) != want {
				t.Errorf("%d letters, at most %d: %v, %v, want %v", n, most, Word(s, most), Letters(s, most), want)
			}
			if got := Digits(strings.Repeat("7", n), most); got != want {
				t.Errorf("%d digits, at most %d: %v, want %v", n, most, got, want)
			}
		}
	}
}
