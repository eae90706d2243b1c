package conn

import (
	"strings"
	"testing"

	"cloakroom/store"
)

func ofAnn(quota int) Finder {
	ann := store.New(quota)
	return func(name, token string) *store.Store {
		if name == "ann" && token == "x" {
			return ann
		}
		return nil
	}
}

func TestNoMoreBytesAreKeptThanItMustWaitWith(t *testing.T) {
	many := strings.Repeat("x", 1000000)
	for _, c := range []struct {
		in   string
		kept int
	}{
		{"", 0}, {"get a", 5}, {"get a\n", 0}, {"get a\nget", 3}, {many[:120], 120}, {many[:121], 0}, {many, 0},
		{"quit\n", 0}, {"quit\nget a", 0}, {"quit\n" + many, 0},
		{"auth ann x\nset a 0 0 3\nab", 2}, {"auth ann x\nset a 0 0 100\n" + many[:100], 100}, {"auth ann x\nset a 0 0 100\n" + many[:101], 0}, {"auth ann x\nset a 0 0 3\n" + many, 0},
	} {
		one := New(ofAnn(2000))
		one.Feed(c.in)
		each := New(ofAnn(2000))
		for i := range len(c.in) {
			each.Feed(c.in[i : i+1])
		}
		if len(one.rest) != c.kept || len(each.rest) != c.kept {
			t.Errorf("behind %.40q .. %d and, byte by byte, %d bytes are kept, want %d", c.in, len(one.rest), len(each.rest), c.kept)
		}
	}
}

func TestNoRoomIsHeldForWhatWasTaken(t *testing.T) {
	c := New(ofAnn(2000))
	c.Feed(strings.Repeat("get a\n", 10000))
	c.Take(1 << 30)
	if cap(c.answers) != 0 {
		t.Errorf("room for %d bytes is held where none are left", cap(c.answers))
	}
}

func TestManyAnswersTakenByteByByte(t *testing.T) {
	c := New(ofAnn(2000))
	const many = 200000
	c.Feed(strings.Repeat("\n", many))
	var got strings.Builder
	for range many * len("ERROR auth\n") {
		got.WriteString(c.Take(1))
	}
	if got.String() != strings.Repeat("ERROR auth\n", many) || c.Take(1) != "" {
		t.Errorf("taken byte by byte the answers are others")
	}
}
