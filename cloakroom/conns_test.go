package cloakroom_test

import (
	"math"
	"strings"
	"testing"

	"cloakroom/api"
	"cloakroom/cloakroom"
)

func open(t *testing.T, conns int) *cloakroom.Server {
	t.Helper()
	s, e := cloakroom.Open(named("ann", "bob"), conns)
	if s == nil || e != api.OK {
		t.Fatalf("P4: Open = %v, %d", s, e)
	}
	return s
}

func wantDial(t *testing.T, s *cloakroom.Server, want int, wantE api.Errno) {
	t.Helper()
	if c, e := s.Dial(); c != want || e != wantE {
		t.Fatalf("P5: Dial = %d, %d, want %d, %d", c, e, want, wantE)
	}
}

func wantHang(t *testing.T, s *cloakroom.Server, c int, want api.Errno) {
	t.Helper()
	if e := s.Hang(c); e != want {
		t.Fatalf("P5: Hang(%d) = %d, want %d", c, e, want)
	}
}

// wantThere asks, without a change to the server, whether there is a connection c.
func wantThere(t *testing.T, s *cloakroom.Server, c int, there bool) {
	t.Helper()
	want := api.ErrNone
	if there {
		want = api.OK
	}
	if e := s.Feed(c, ""); e != want {
		t.Fatalf("P5: Feed(%d, ..) = %d, want %d", c, e, want)
	}
	if x, e := s.Take(c, 5); x != "" || e != want {
		t.Fatalf("P5: Take(%d, 5) = %q, %d, want %d", c, x, e, want)
	}
}

func TestNoConnectionsAtFirst(t *testing.T) {
	s := open(t, 8)
	for c := -1; c <= 8; c++ {
		wantThere(t, s, c, false)
		wantHang(t, s, c, api.ErrNone)
	}
}

func TestAsManyConnectionsAsOpenSays(t *testing.T) {
	for conns := 1; conns <= 8; conns++ {
		s := open(t, conns)
		for c := range conns {
			wantDial(t, s, c, api.OK)
		}
		wantDial(t, s, 0, api.ErrFull)
		wantDial(t, s, 0, api.ErrFull)
		for c := range 9 {
			wantThere(t, s, c, c < conns)
		}
	}
}

func TestANumberIsFreeBehindHang(t *testing.T) {
	s := open(t, 8)
	for c := range 8 {
		wantDial(t, s, c, api.OK)
	}
	for _, c := range []int{6, 2, 4} {
		wantHang(t, s, c, api.OK)
		wantHang(t, s, c, api.ErrNone)
		wantThere(t, s, c, false)
	}
	for _, c := range []int{2, 4, 6} {
		wantDial(t, s, c, api.OK)
	}
	wantDial(t, s, 0, api.ErrFull)
}

func TestNumbersOfNoConnection(t *testing.T) {
	s := open(t, 2)
	wantDial(t, s, 0, api.OK)
	for _, c := range []int{-1, 1, 2, 7, 8, 256, 1 << 32, math.MaxInt, math.MinInt} {
		wantThere(t, s, c, false)
		wantHang(t, s, c, api.ErrNone)
	}
	wantThere(t, s, 0, true)
}

func TestOneThatHasQuitIsOneTillHang(t *testing.T) {
	s := open(t, 1)
	wantDial(t, s, 0, api.OK)
	s.Feed(0, "quit\n")
	wantThere(t, s, 0, true)
	wantDial(t, s, 0, api.ErrFull)
	wantHang(t, s, 0, api.OK)
	wantDial(t, s, 0, api.OK)
}

func TestHangTakesTheAnswersWithIt(t *testing.T) {
	s := open(t, 1)
	wantDial(t, s, 0, api.OK)
	s.Feed(0, "auth ann y\nget a\n")
	wantHang(t, s, 0, api.OK)
	wantDial(t, s, 0, api.OK)
	if x, e := s.Take(0, 1000); x != "" || e != api.OK {
		t.Errorf("P5: a new connection has the answer %q, %d", x, e)
	}
}

// A model of P5: which numbers there are, for every row of six calls.
func TestEveryRowOfDialsAndHangs(t *testing.T) {
	const conns, calls, row = 3, 6, 6 // a call: Dial, or Hang of -1 to 3
	rows := int(math.Pow(calls, row))
	for r := range rows {
		s := open(t, conns)
		var there [conns]bool
		for range row {
			call := r % calls
			r /= calls
			if call == 0 {
				modelDial(t, s, there[:])
			} else {
				modelHang(t, s, there[:], call-2)
			}
		}
		for c := range conns {
			wantThere(t, s, c, there[c])
		}
	}
}

func modelDial(t *testing.T, s *cloakroom.Server, there []bool) {
	t.Helper()
	for c := range there {
		if !there[c] {
			there[c] = true
			wantDial(t, s, c, api.OK)
			return
		}
	}
	wantDial(t, s, 0, api.ErrFull)
}

func modelHang(t *testing.T, s *cloakroom.Server, there []bool, c int) {
	t.Helper()
	if c < 0 || c >= len(there) || !there[c] {
		wantHang(t, s, c, api.ErrNone)
		return
	}
	there[c] = false
	wantHang(t, s, c, api.OK)
}

func TestServersDoNotTouchOneAnother(t *testing.T) {
	l := named("ann")
	a, _ := cloakroom.Open(l, 2)
	b, _ := cloakroom.Open(l, 2)
	wantDial(t, a, 0, api.OK)
	wantDial(t, a, 1, api.OK)
	wantHang(t, b, 0, api.ErrNone)
	wantDial(t, b, 0, api.OK)
	wantHang(t, a, 0, api.OK)
	wantThere(t, b, 0, true)
	wantDial(t, b, 1, api.OK)
	wantDial(t, b, 0, api.ErrFull)
	wantDial(t, a, 0, api.OK)
	cloakroom.Open(l, 1)
	wantThere(t, a, 1, true)
	wantThere(t, b, 1, true)
}

func TestNoCallPanics(t *testing.T) {
	s := open(t, 1)
	numbers := []int{0, 1, -1, 8, 1000000, 1000001, math.MaxInt32, math.MinInt32, math.MaxInt, math.MinInt}
	texts := []string{"", "\n", "\r\n", "\x00", "\xff\n", strings.Repeat("x", 1000000), strings.Repeat("get a\n", 100000), strings.Repeat("\n", 1000000)}
	for range 2 {
		for _, c := range numbers {
			for _, text := range texts {
				s.Feed(c, text)
			}
			for _, n := range numbers {
				if x, e := s.Take(c, n); e != api.OK && x != "" {
					t.Errorf("P1: Take(%d, %d) = %q, %d", c, n, x, e)
				}
			}
			s.Tick(c)
		}
		s.Dial()
	}
	for _, c := range numbers {
		s.Hang(c)
	}
}
