package cloakroom_test

import (
	"math"
	"strings"
	"testing"

	"cloakroom/cloakroom"
)

// Lines, values and what is passed over, each with newlines and bytes 13 about where it ends.
var cuttable = []string{
	"get a|auth ann y|auth ann x|set a 7 0 3|a|c|get a b\r|get a\r\r|quit\r|get a|",
	"auth ann x\r|set a 0 0 0||add a 0 0 1|x|set a 0 0 2|abc\r|get a|set a 0 0 4|abc|get a||get a|",
	"auth ann x|set a 0 0 1|\r|cas a 1 0 1 1|||cas a 1 0 1 1|y|replace a 2 0 2|\r||get a|auth bob y|get a|set a 0 0 2|zz|get a|",
	"auth ann x|" + strings.Repeat("x", 120) + "|" + strings.Repeat("y", 121) + "|get a|",
	strings.Repeat("x", 119) + "\r|" + strings.Repeat("y", 120) + "\r|auth bob y|set a 0 0 3|abcdefg|get a|",
	"auth ann x|set n 3 5 2|09|incr n 1\r|incr n 999999999|incr n 1|touch n 5|delete n\r|delete n|touch n 0|incr n 1|stats\r|stats |",
	strings.Repeat("x", 245) + "|get a|auth ann x|set b 0 0 5|12345",
}

func answersTo(t *testing.T, pieces ...string) string {
	t.Helper()
	s := dialled(t, 1, ann, bob)
	for _, piece := range pieces {
		s.Feed(0, piece)
	}
	x, _ := s.Take(0, math.MaxInt)
	return x
}

func TestCutAnywhereIntoThree(t *testing.T) {
	for _, in := range cuttable {
		in = unbarred(in)
		want := answersTo(t, in)
		for j := range len(in) + 1 {
			for i := range j + 1 {
				if got := answersTo(t, in[:i], in[i:j], in[j:]); got != want {
					t.Fatalf("P7: %q cut at %d and %d is answered %q, want %q", in, i, j, got, want)
				}
			}
		}
	}
}

func TestByteByByte(t *testing.T) {
	for _, in := range cuttable {
		in = unbarred(in)
		if got, want := answersTo(t, strings.Split(in, "")...), answersTo(t, in); got != want {
			t.Errorf("P7: %q byte by byte is answered %q, want %q", in, got, want)
		}
		for n := 2; n < 130; n++ {
			var pieces []string
			for i := 0; i < len(in); i += n {
				pieces = append(pieces, in[i:min(len(in), i+n)], "")
			}
			if got, want := answersTo(t, pieces...), answersTo(t, in); got != want {
				t.Errorf("P7: %q in pieces of %d is answered %q, want %q", in, n, got, want)
			}
		}
	}
}

// An answer comes with the byte that asks for it, not with a later one.
func TestEachAnswerAtItsByte(t *testing.T) {
	for _, c := range []struct {
		in string
		at []int // behind how many bytes there is more to be taken
	}{
		{"get a|get a|", []int{6, 12}},
		{"auth ann x|set a 0 0 2|ab|get a|", []int{11, 26, 32}},
		{"auth ann x|set a 0 0 2|abc|get a|", []int{11, 26, 33}},
		{"auth ann x|incr a 1|touch a 1|delete a|stats|", []int{11, 20, 30, 39, 45}},
		{strings.Repeat("x", 125) + "|get a|", []int{121, 132}},
		{strings.Repeat("x", 120) + "|get a|", []int{121, 127}},
	} {
		s := dialled(t, 1, ann)
		wantAnswersAt(t, s, unbarred(c.in), c.at)
	}
}

func wantAnswersAt(t *testing.T, s *cloakroom.Server, in string, at []int) {
	t.Helper()
	for i := range len(in) {
		s.Feed(0, in[i:i+1])
		x, _ := s.Take(0, math.MaxInt)
		due := len(at) > 0 && at[0] == i+1
		if (x != "") != due {
			t.Errorf("P6: behind %d bytes of %q the answer is %q", i+1, in, x)
		}
		if due {
			at = at[1:]
		}
	}
}
