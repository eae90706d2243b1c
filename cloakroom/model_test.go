package cloakroom_test

import (
	"fmt"
	"math"
	"math/rand"
	"regexp"
	"slices"
	"strconv"
	"strings"
	"testing"

	"cloakroom/api"
	"cloakroom/cloakroom"
)

// A model of what one connection is answered, told in another way than the program does it:
// all bytes are there at once, a tenant's entries stand in a slice, the one that was used last at its end, and each knows how many seconds it has left.

type modelEntry struct {
	key, value  string
	flags, mark int
	left        int // 0: it has no end
}

type modelTenant struct {
	api.Tenant
	row                                  []modelEntry
	marks                                int
	gets, hits, stores, evicted, expired int
}

// tick is a number of seconds that is to go by when so many bytes have come.
type tick struct{ behind, seconds int }

// pass lets seconds go by.
func (m *modelTenant) pass(seconds int) {
	var row []modelEntry
	for _, e := range m.row {
		if e.left == 0 {
			row = append(row, e)
		} else if e.left -= seconds; e.left > 0 {
			row = append(row, e)
		} else {
			m.expired++
		}
	}
	m.row = row
}

func (m *modelTenant) at(key string) int {
	return slices.IndexFunc(m.row, func(e modelEntry) bool { return e.key == key })
}

func (m *modelTenant) get(keys []string) string {
	out := ""
	for _, key := range keys {
		m.gets++
		if i := m.at(key); i >= 0 {
			m.hits++
			e := m.use(i)
			out += fmt.Sprintf("VALUE %s %d %d %d\n%s\n", key, e.flags, len(e.value), e.mark, e.value)
		}
	}
	return out + "END\n"
}

func (m *modelTenant) use(i int) modelEntry {
	e := m.row[i]
	m.row = append(slices.Delete(m.row, i, i+1), e)
	return e
}

func (m *modelTenant) store(words []string, value string) string {
	i := m.at(words[1])
	switch {
	case words[0] == "add" && i >= 0, words[0] == "replace" && i < 0:
		return "NOT STORED\n"
	case words[0] == "cas" && i < 0:
		return "NOT FOUND\n"
	case words[0] == "cas" && strconv.Itoa(m.row[i].mark) != words[5]:
		return "EXISTS\n"
	}
	flags, _ := strconv.Atoi(words[2])
	life, _ := strconv.Atoi(words[3])
	return m.put(words[1], value, flags, life, "STORED\n")
}

// put answers what is said, if there is room.
func (m *modelTenant) put(key, value string, flags, life int, said string) string {
	if len(key)+len(value)+16 > m.Quota {
		return "TOO LARGE\n"
	}
	if i := m.at(key); i >= 0 {
		m.row = slices.Delete(m.row, i, i+1)
	}
	m.marks++
	m.stores++
	m.row = append(m.row, modelEntry{key, value, flags, m.marks, life})
	for m.cost() > m.Quota {
		m.row = m.row[1:]
		m.evicted++
	}
	return said
}

var digits = regexp.MustCompile(`^[0-9]{1,9}\z`)

// other does delete, incr and touch.
func (m *modelTenant) other(words []string) string {
	i := m.at(words[1])
	switch {
	case i < 0:
		return "NOT FOUND\n"
	case words[0] == "delete":
		m.row = slices.Delete(m.row, i, i+1)
		return "DELETED\n"
	case words[0] == "touch":
		m.row[i].left, _ = strconv.Atoi(words[2])
		m.use(i)
		return "TOUCHED\n"
	case !digits.MatchString(m.row[i].value):
		return "NOT NUMBER\n"
	}
	var there, more int64
	fmt.Sscanf(m.row[i].value, "%d", &there)
	fmt.Sscanf(words[2], "%d", &more)
	sum := fmt.Sprint(there + more)
	return m.put(words[1], sum, m.row[i].flags, m.row[i].left, sum+"\n")
}

func (m *modelTenant) stats() string {
	return fmt.Sprintf("gets %d\nhits %d\nstores %d\nevicted %d\nexpired %d\nitems %d\nbytes %d\nEND\n",
		m.gets, m.hits, m.stores, m.evicted, m.expired, len(m.row), m.cost())
}

func (m *modelTenant) cost() int {
	sum := 0
	for _, e := range m.row {
		sum += len(e.key) + len(e.value) + 16
	}
	return sum
}

// passAll lets the ticks go by that came ahead of the last of so many bytes, and answers the others. A tick that may not be is none.
func passAll(tenants []*modelTenant, now *int, ticks []tick, bytes int) []tick {
	for len(ticks) > 0 && ticks[0].behind < bytes {
		n := ticks[0].seconds
		if n >= 0 && n <= 1000000 && *now+n <= 1000000000 {
			*now += n
			for _, m := range tenants {
				m.pass(n)
			}
		}
		ticks = ticks[1:]
	}
	return ticks
}

// joined answers the bytes of all parts, and the ticks that stand between them.
func joined(parts []part) (string, []tick) {
	in, ticks := "", []tick(nil)
	for _, p := range parts {
		in += p.bytes
		ticks = append(ticks, tick{len(in), p.seconds})
	}
	return in, ticks
}

// modelOf tells what is answered to these parts on the first connection of a new server.
func modelOf(l []api.Tenant, parts []part) string {
	var tenants []*modelTenant
	for _, one := range l {
		tenants = append(tenants, &modelTenant{Tenant: one})
	}
	var of *modelTenant
	now := 0
	in, ticks := joined(parts)
	all, out := len(in), ""
	for {
		line, rest, found := strings.Cut(in, "\n")
		if len(line) > 120 {
			out += "ERROR long\n"
			in = rest
			continue
		}
		if !found {
			return out
		}
		in = rest
		ticks = passAll(tenants, &now, ticks, all-len(in))
		line = strings.TrimSuffix(line, "\r")
		words, kind := strings.Split(line, " "), lineByForms(line)
		switch {
		case kind == "quit":
			return out
		case kind == "auth":
			i := slices.IndexFunc(tenants, func(m *modelTenant) bool { return m.Name == words[1] && m.Token == words[2] })
			if i < 0 {
				out += "DENIED\n"
			} else {
				of = tenants[i]
				out += "OK\n"
			}
		case of == nil:
			out += "ERROR auth\n"
		case kind == "bad":
			out += "ERROR bad\n"
		case kind == "get":
			out += of.get(words[1:])
		case kind == "stats":
			out += of.stats()
		case kind == "delete", kind == "incr", kind == "touch":
			out += of.other(words)
		default:
			size, _ := strconv.Atoi(words[4])
			if len(in) <= size {
				return out
			}
			value := in[:size]
			if in[size] == '\n' {
				in = in[size+1:]
				ticks = passAll(tenants, &now, ticks, all-len(in))
				out += of.store(words, value)
			} else {
				out += "ERROR data\n"
				_, in, _ = strings.Cut(in[size:], "\n")
			}
		}
	}
}

func pick[T any](r *rand.Rand, from ...T) T { return from[r.Intn(len(from))] }

// keyOf answers one of a few keys, so that they are met again.
func keyOf(r *rand.Rand) string {
	return pick(r, "a", "b", "c", "dd", "eeeeeeeeee", "ffffffffffffffffffff")
}

// lifeOf answers one of a few lives, mostly short ones, so that several end at once.
func lifeOf(r *rand.Rand) int { return pick(r, 0, 0, 1, 2, 3, 5, 8, 13, 999999, 1000000) }

func storeOf(r *rand.Rand) string {
	size := pick(r, 0, 1, 2, 3, 7, 9, 10, 30, 99, 100)
	name := pick(r, "set", "set", "set", "add", "replace", "cas")
	line := fmt.Sprintf("%s %s %d %d %d", name, keyOf(r), r.Intn(65536), lifeOf(r), size)
	if name == "cas" {
		line += " " + strconv.Itoa(r.Intn(12))
	}
	value := make([]byte, max(0, size+pick(r, 0, 0, 0, 0, 0, 0, -1, 1, 5)))
	from := pick(r, "vw \n\r\x00\xff", "0123456789", "099")
	for i := range value {
		value[i] = from[r.Intn(len(from))]
	}
	return line + pick(r, "\n", "\n", "\n", "\r\n") + string(value) + "\n"
}

// otherOf answers a line of a command that wants no value.
func otherOf(r *rand.Rand) string {
	n := pick(r, 0, 1, 9, 900, 1000000, 999999999)
	line := pick(r, "stats", "delete "+keyOf(r), "incr "+keyOf(r)+" "+strconv.Itoa(n), "incr "+keyOf(r)+" "+strconv.Itoa(n), "touch "+keyOf(r)+" "+strconv.Itoa(lifeOf(r)))
	return line + pick(r, "\n", "\n", "\n", "\r\n")
}

// bytesOf answers bytes that a connection might be fed with: mostly what a client would say, some of it wrong.
func bytesOf(r *rand.Rand, names ...string) string {
	var b strings.Builder
	b.WriteString(pick(r, "", "auth "+names[0]+" x\n", "auth "+names[0]+" x\n"))
	for range r.Intn(35) {
		switch r.Intn(16) {
		case 0:
			b.WriteString("auth " + pick(r, names...) + " " + pick(r, "x", "x", "y") + "\n")
		case 1:
			b.WriteString(strings.Repeat("x", 118+r.Intn(6)) + pick(r, "", "\r", "\n", "\r\n"))
		case 2:
			b.WriteString(pick(r, "", " ", "nothing", "get", "set a 0 0 101", "get a ", "quit now", "\r", "get a\r\r", "set a 0 0 1", "stats a", "delete", "incr a", "incr a -1", "touch a", "touch a 1000001") + "\n")
		case 3, 4, 5:
			b.WriteString("get" + strings.Repeat(" "+keyOf(r), 1+r.Intn(3)) + " " + keyOf(r) + pick(r, "\n", "\r\n"))
		case 6:
			if r.Intn(10) == 0 {
				b.WriteString("quit\n")
			}
		case 7, 8, 9, 10:
			b.WriteString(otherOf(r))
		default:
			b.WriteString(storeOf(r))
		}
	}
	b.WriteString(pick(r, "", "get", "get a", "\r"))
	return b.String()
}

// cutOf feeds a connection in smaller pieces yet, takes in between, and answers all that was taken.
func cutOf(r *rand.Rand, s *cloakroom.Server, c int, parts []part) string {
	out := ""
	for _, p := range parts {
		for in := p.bytes; in != ""; {
			n := min(len(in), pick(r, 0, 1, 1, 2, 3, 10, 50, 121))
			s.Feed(c, in[:n])
			in = in[n:]
			x, _ := s.Take(c, pick(r, -1, 0, 1, 5, 100))
			out += x
		}
		s.Tick(p.seconds)
	}
	x, _ := s.Take(c, math.MaxInt)
	return out + x
}

// wantModel answers what the model tells.
func wantModel(t *testing.T, r *rand.Rand, l []api.Tenant, parts []part) string {
	t.Helper()
	want := modelOf(l, parts) + "--\n"
	if got := fed(dialled(t, 1, l...), parts, 0); got != want {
		t.Fatalf("P6, P10: %v\n is answered %q\n want %q", parts, got, want)
	}
	if got := cutOf(r, dialled(t, 1, l...), 0, parts) + "--\n"; got != want {
		t.Fatalf("P7: %v\n in smaller pieces is answered %q\n want %q", parts, got, want)
	}
	return want
}

// lateParts answers parts that bring a server's time almost as far as it goes, where many ticks may not be.
func lateParts() []part {
	parts := []part{{seconds: 999990}}
	for range 999 {
		parts = append(parts, part{seconds: 1000000})
	}
	return parts
}

func TestAsTheModel(t *testing.T) {
	r := rand.New(rand.NewSource(1))
	var answers strings.Builder
	for n := range 6000 {
		l := []api.Tenant{tenant("ann", "x", 1+r.Intn(pick(r, 60, 150, 300, 2000))), tenant("bob", "x", 1+r.Intn(300)), tenant("eve", "y", 100)}
		in := bytesOf(r, "ann", "bob", "eve", "dan")
		parts := []part{{bytes: in}}
		if n%3 > 0 {
			parts = partsOf(r, []string{in})
		}
		if n%200 == 1 {
			parts = append(lateParts(), parts...)
		}
		answers.WriteString(wantModel(t, r, l, parts))
	}
	seen := answers.String()
	for _, answer := range []string{"OK", "DENIED", "ERROR auth", "ERROR bad", "ERROR long", "ERROR data", "STORED", "NOT STORED", "NOT FOUND", "EXISTS", "TOO LARGE", "END", "DELETED", "NOT NUMBER", "TOUCHED", "evicted [1-9]", "expired [1-9]", "(STORED|END|FOUND|bad)\n[0-9]+"} {
		if n := len(regexp.MustCompile("(?m)^"+answer+"$").FindAllString(seen, -1)); n < 50 {
			t.Errorf("only %d times was the answer %q: the bytes are not the ones to try", n, answer)
		}
	}
}

func FuzzFeed(f *testing.F) {
	r := rand.New(rand.NewSource(2))
	for seed := range int64(20) {
		f.Add(bytesOf(r, "ann", "bob"), seed, 150)
	}
	f.Fuzz(func(t *testing.T, in string, seed int64, quota int) {
		l := []api.Tenant{tenant("ann", "x", 1+int(uint(quota)%2000)), tenant("bob", "x", 100)}
		r := rand.New(rand.NewSource(seed))
		wantModel(t, r, l, []part{{bytes: in}})
		wantModel(t, r, l, partsOf(r, []string{in}))
	})
}
