package cloakroom_test

import (
	"fmt"
	"math"
	"math/rand"
	"slices"
	"strings"
	"testing"

	"cloakroom/api"
	"cloakroom/cloakroom"
)

func TestTenantsWithTheSameKeys(t *testing.T) {
	s := dialled(t, 3, tenant("ann", "x", 40), tenant("bob", "y", 40))
	says(t, s, 0, "auth ann x|set a 1 0 3|ann|", "OK|STORED|")
	says(t, s, 1, "auth bob y|get a|replace a 2 0 3|bob|cas a 2 0 3 1|bob|add a 2 0 3|bob|", "OK|END|NOT STORED|NOT FOUND|STORED|")
	says(t, s, 0, "get a|", "VALUE a 1 3 1|ann|END|")
	says(t, s, 1, "get a|set b 2 0 3|bob|set c 2 0 3|bob|", "VALUE a 2 3 1|bob|END|STORED|STORED|")
	says(t, s, 0, "get a b c|cas a 1 0 3 1|Ann|", "VALUE a 1 3 1|ann|END|STORED|")
	says(t, s, 1, "get b c|", "VALUE b 2 3 2|bob|VALUE c 2 3 3|bob|END|")
	// What nobody's connection says, and a tenant's bytes that are no line yet, touch nobody.
	says(t, s, 2, "set a 0 0 3|xyz|auth ann y|set b 0 0", "ERROR auth|ERROR auth|DENIED|")
	says(t, s, 0, "get a b|", "VALUE a 1 3 2|Ann|END|")
	says(t, s, 1, "get a b|", "VALUE b 2 3 2|bob|END|")
}

// part is what comes to one connection at one time, and what is handed to Tick behind it.
type part struct {
	conn    int
	bytes   string
	seconds int
}

func (p part) String() string { return fmt.Sprintf("%d %q Tick(%d)", p.conn, p.bytes, p.seconds) }

// secondsOf answers mostly few, or none at all, now and then so many that all that has an end has ended, or what may not be.
func secondsOf(r *rand.Rand) int {
	if r.Intn(40) == 0 {
		return pick(r, 1000000, 999999, -1, 1000001, math.MaxInt, math.MinInt)
	}
	return pick(r, 0, 0, 0, 0, 1, 1, 2, 5)
}

// partsOf cuts what each connection is to be fed with, mixes the pieces, and lets time go by between some.
func partsOf(r *rand.Rand, ins []string) []part {
	var parts []part
	left := append([]string(nil), ins...)
	for strings.Join(left, "") != "" {
		c := r.Intn(len(left))
		n := min(len(left[c]), 1+r.Intn(60))
		parts = append(parts, part{c, left[c][:n], secondsOf(r)})
		left[c] = left[c][n:]
	}
	return parts
}

// fed answers what these connections were answered, of the parts that are theirs. The ticks are everyone's.
func fed(s *cloakroom.Server, parts []part, conns ...int) string {
	for _, p := range parts {
		if slices.Contains(conns, p.conn) {
			s.Feed(p.conn, p.bytes)
		}
		s.Tick(p.seconds)
	}
	out := ""
	for _, c := range conns {
		x, _ := s.Take(c, math.MaxInt)
		out += x + "--\n"
	}
	return out
}

// fedAmong feeds all parts, with another server and a connection that comes and goes in between, and answers what each connection was answered.
func fedAmong(t *testing.T, l []api.Tenant, parts []part, conns int) []string {
	t.Helper()
	s, other := dialled(t, conns, l...), dialled(t, conns, l...)
	for _, p := range parts {
		other.Feed(conns-1-p.conn, p.bytes)
		s.Feed(p.conn, p.bytes)
		other.Feed(p.conn, "\nauth ann x\nset a 0 0 1\n1\nstats\n")
		other.Tick(3)
		c, _ := s.Dial()
		s.Feed(c, "stats\ndelete a\nauth ann wrong\nset a 0 0 1\n1\nget a\nquit")
		s.Hang(c)
		s.Tick(p.seconds)
	}
	var answers []string
	for c := range conns {
		x, _ := s.Take(c, math.MaxInt)
		answers = append(answers, x+"--\n")
	}
	return answers
}

// Two connections of each tenant, and one of nobody: whatever the others say, they are answered as if they were alone on the server.
func TestNobodyNoticesTheOthers(t *testing.T) {
	r := rand.New(rand.NewSource(3))
	l := []api.Tenant{tenant("ann", "x", 90), tenant("bob", "x", 150), tenant("eve", "x", 40)}
	ended := 0
	for range 1000 {
		var ins []string
		for c := range 6 {
			name := l[c%3].Name
			ins = append(ins, bytesOf(r, name, name, "dan"))
		}
		ins = append(ins, bytesOf(r, "dan", "nobody"))
		parts := partsOf(r, ins)
		answers := fedAmong(t, l, parts, 7)
		if strings.Contains(answers[6], "OK") {
			t.Fatalf("the last connection should belong to nobody: %q", answers[6])
		}
		for c := range 3 {
			alone := fed(dialled(t, 6, l...), parts, c, c+3)
			if got := answers[c] + answers[c+3]; got != alone {
				t.Fatalf("P9: %s is answered\n%q\n among others, and\n%q\n alone, to %v", l[c].Name, got, alone, parts)
			}
			ended += strings.Count(alone, "\nexpired ") - strings.Count(alone, "\nexpired 0\n")
		}
	}
	if ended < 1000 {
		t.Errorf("only %d times was it told that some have ended: the ticks are not the ones to try", ended)
	}
}

// What each of them has done is told by stats, by the marks and by who goes first: to it alone.
func TestOtherTenantsAtWork(t *testing.T) {
	work := "set a 7 5 2|09|incr a 1|touch b 1|add b 0 0 3|bbb|touch a 9|set c 0 0 3|ccc|delete c|cas b 1 0 2 2|bb|get a b c|"
	l := []api.Tenant{tenant("ann", "x", 40), tenant("bob", "x", 40), tenant("eve", "x", 2000)}
	s, other := dialled(t, 4, l...), dialled(t, 1, l...)
	says(t, s, 0, "auth ann x|set a 3 0 3|001|set b 4 0 3|bbb|get a|", "OK|STORED|STORED|VALUE a 3 3 1|001|END|")
	says(t, s, 3, work, strings.Repeat("ERROR auth|", strings.Count(work, "|"))) // its values are lines, too
	for c, name := range map[int]string{1: "bob", 2: "eve"} {
		s.Feed(c, unbarred("auth "+name+" x|"+work+work+"stats|delete a|delete b|"))
	}
	other.Feed(0, unbarred("auth ann x|"+work+work+"stats|delete a|delete b|"))
	says(t, s, 0, "stats|set c 0 0 3|ccc|get a b c|incr a 1|delete c|stats|", statsOf(1, 1, 2, 0, 2, 40)+
		"STORED|VALUE a 3 3 1|001|VALUE c 0 3 3|ccc|END|2|DELETED|"+statsOf(4, 3, 4, 1, 1, 18))
}

func TestServersOfTheSameTenants(t *testing.T) {
	r := rand.New(rand.NewSource(4))
	l := []api.Tenant{tenant("ann", "x", 90)}
	for range 300 {
		parts := partsOf(r, []string{bytesOf(r, "ann"), bytesOf(r, "ann")})
		servers := []*cloakroom.Server{dialled(t, 2, l...), dialled(t, 2, l...)}
		for _, p := range parts {
			servers[p.conn].Feed(p.conn, p.bytes)
			servers[p.conn].Tick(p.seconds)
		}
		for c, s := range servers {
			got, _ := s.Take(c, math.MaxInt)
			own := slices.DeleteFunc(slices.Clone(parts), func(p part) bool { return p.conn != c })
			if want := fed(dialled(t, 2, l...), own, c); got+"--\n" != want {
				t.Fatalf("P2: beside another server %v is answered\n%q\n want\n%q", own, got, want)
			}
		}
	}
}
