package cloakroom_test

import (
	"fmt"
	"math"
	"math/rand"
	"regexp"
	"slices"
	"strconv"
	"strings"
	"testing"

	"cloakroom/api"
	"cloakroom/cloakroom"
)

// A model of what one connection is answered, told in another way than the program does it:
// all bytes are there at once, and a tenant's entries stand in a slice, the one that was used last at its end.

type modelEntry struct {
	key, value  string
	flags, mark int
}

type modelTenant struct {
	api.Tenant
	row                         []modelEntry
	marks                       int
	gets, hits, stores, evicted int
}

func (m *modelTenant) at(key string) int {
	return slices.IndexFunc(m.row, func(e modelEntry) bool { return e.key == key })
}

func (m *modelTenant) get(keys []string) string {
	out := ""
	for _, key := range keys {
		m.gets++
		if i := m.at(key); i >= 0 {
			m.hits++
			e := m.use(i)
			out += fmt.Sprintf("VALUE %s %d %d %d\n%s\n", key, e.flags, len(e.value), e.mark, e.value)
		}
	}
	return out + "END\n"
}

func (m *modelTenant) use(i int) modelEntry {
	e := m.row[i]
	m.row = append(slices.Delete(m.row, i, i+1), e)
	return e
}

func (m *modelTenant) store(words []string, value string) string {
	i := m.at(words[1])
	switch {
	case words[0] == "add" && i >= 0, words[0] == "replace" && i < 0:
		return "NOT STORED\n"
	case words[0] == "cas" && i < 0:
		return "NOT FOUND\n"
	case words[0] == "cas" && strconv.Itoa(m.row[i].mark) != words[5]:
		return "EXISTS\n"
	}
	flags, _ := strconv.Atoi(words[2])
	return m.put(words[1], value, flags, "STORED\n")
}

// put answers what is said, if there is room.
func (m *modelTenant) put(key, value string, flags int, said string) string {
	if len(key)+len(value)+16 > m.Quota {
		return "TOO LARGE\n"
	}
	if i := m.at(key); i >= 0 {
		m.row = slices.Delete(m.row, i, i+1)
	}
	m.marks++
	m.stores++
	m.row = append(m.row, modelEntry{key, value, flags, m.marks})
	for m.cost() > m.Quota {
		m.row = m.row[1:]
		m.evicted++
	}
	return said
}

var digits = regexp.MustCompile(`^[0-9]{1,9}\z`)

// other does delete, incr and touch.
func (m *modelTenant) other(words []string) string {
	i := m.at(words[1])
	switch {
	case i < 0:
		return "NOT FOUND\n"
	case words[0] == "delete":
		m.row = slices.Delete(m.row, i, i+1)
		return "DELETED\n"
	case words[0] == "touch":
		m.use(i)
		return "TOUCHED\n"
	case !digits.MatchString(m.row[i].value):
		return "NOT NUMBER\n"
	}
	var there, more int64
	fmt.Sscanf(m.row[i].value, "%d", &there)
	fmt.Sscanf(words[2], "%d", &more)
	sum := fmt.Sprint(there + more)
	return m.put(words[1], sum, m.row[i].flags, sum+"\n")
}

func (m *modelTenant) stats() string {
	return fmt.Sprintf("gets %d\nhits %d\nstores %d\nevicted %d\nexpired 0\nitems %d\nbytes %d\nEND\n",
		m.gets, m.hits, m.stores, m.evicted, len(m.row), m.cost())
}

func (m *modelTenant) cost() int {
	sum := 0
	for _, e := range m.row {
		sum += len(e.key) + len(e.value) + 16
	}
	return sum
}

// modelOf tells what is answered to these bytes on the first connection of a new server.
func modelOf(l []api.Tenant, in string) string {
	var tenants []*modelTenant
	for _, one := range l {
		tenants = append(tenants, &modelTenant{Tenant: one})
	}
	var of *modelTenant
	out := ""
	for {
		line, rest, found := strings.Cut(in, "\n")
		if len(line) > 120 {
			out += "ERROR long\n"
			in = rest
			continue
		}
		if !found {
			return out
		}
		in = rest
		line = strings.TrimSuffix(line, "\r")
		words, kind := strings.Split(line, " "), lineByForms(line)
		switch {
		case kind == "quit":
			return out
		case kind == "auth":
			i := slices.IndexFunc(tenants, func(m *modelTenant) bool { return m.Name == words[1] && m.Token == words[2] })
			if i < 0 {
				out += "DENIED\n"
			} else {
				of = tenants[i]
				out += "OK\n"
			}
		case of == nil:
			out += "ERROR auth\n"
		case kind == "bad":
			out += "ERROR bad\n"
		case kind == "get":
			out += of.get(words[1:])
		case kind == "stats":
			out += of.stats()
		case kind == "delete", kind == "incr", kind == "touch":
			out += of.other(words)
		default:
			size, _ := strconv.Atoi(words[4])
			if len(in) <= size {
				return out
			}
			value := in[:size]
			if in[size] == '\n' {
				out += of.store(words, value)
				in = in[size+1:]
			} else {
				out += "ERROR data\n"
				_, in, _ = strings.Cut(in[size:], "\n")
			}
		}
	}
}

func pick[T any](r *rand.Rand, from ...T) T { return from[r.Intn(len(from))] }

// keyOf answers one of a few keys, so that they are met again.
func keyOf(r *rand.Rand) string {
	return pick(r, "a", "b", "c", "dd", "eeeeeeeeee", "ffffffffffffffffffff")
}

func storeOf(r *rand.Rand) string {
	size := pick(r, 0, 1, 2, 3, 7, 9, 10, 30, 99, 100)
	name := pick(r, "set", "set", "set", "add", "replace", "cas")
	line := fmt.Sprintf("%s %s %d %d %d", name, keyOf(r), r.Intn(65536), pick(r, 0, 1, 1000000), size)
	if name == "cas" {
		line += " " + strconv.Itoa(r.Intn(12))
	}
	value := make([]byte, max(0, size+pick(r, 0, 0, 0, 0, 0, 0, -1, 1, 5)))
	from := pick(r, "vw \n\r\x00\xff", "0123456789", "099")
	for i := range value {
		value[i] = from[r.Intn(len(from))]
	}
	return line + pick(r, "\n", "\n", "\n", "\r\n") + string(value) + "\n"
}

// otherOf answers a line of a command that wants no value.
func otherOf(r *rand.Rand) string {
	n := pick(r, 0, 1, 9, 900, 1000000, 999999999)
	line := pick(r, "stats", "delete "+keyOf(r), "incr "+keyOf(r)+" "+strconv.Itoa(n), "incr "+keyOf(r)+" "+strconv.Itoa(n), "touch "+keyOf(r)+" "+strconv.Itoa(min(n, 1000000)))
	return line + pick(r, "\n", "\n", "\n", "\r\n")
}

// bytesOf answers bytes that a connection might be fed with: mostly what a client would say, some of it wrong.
func bytesOf(r *rand.Rand, names ...string) string {
	var b strings.Builder
	b.WriteString(pick(r, "", "auth "+names[0]+" x\n", "auth "+names[0]+" x\n"))
	for range r.Intn(35) {
		switch r.Intn(16) {
		case 0:
			b.WriteString("auth " + pick(r, names...) + " " + pick(r, "x", "x", "y") + "\n")
		case 1:
			b.WriteString(strings.Repeat("x", 118+r.Intn(6)) + pick(r, "", "\r", "\n", "\r\n"))
		case 2:
			b.WriteString(pick(r, "", " ", "nothing", "get", "set a 0 0 101", "get a ", "quit now", "\r", "get a\r\r", "set a 0 0 1", "stats a", "delete", "incr a", "incr a -1", "touch a", "touch a 1000001") + "\n")
		case 3, 4, 5:
			b.WriteString("get" + strings.Repeat(" "+keyOf(r), 1+r.Intn(3)) + " " + keyOf(r) + pick(r, "\n", "\r\n"))
		case 6:
			if r.Intn(10) == 0 {
				b.WriteString("quit\n")
			}
		case 7, 8, 9, 10:
			b.WriteString(otherOf(r))
		default:
			b.WriteString(storeOf(r))
		}
	}
	b.WriteString(pick(r, "", "get", "get a", "\r"))
	return b.String()
}

// cutOf feeds a connection in pieces, takes in between, and answers all that was taken.
func cutOf(r *rand.Rand, s *cloakroom.Server, c int, in string) string {
	out := ""
	for in != "" {
		n := min(len(in), pick(r, 0, 1, 1, 2, 3, 10, 50, 121))
		s.Feed(c, in[:n])
		in = in[n:]
		x, _ := s.Take(c, pick(r, -1, 0, 1, 5, 100))
		out += x
	}
	x, _ := s.Take(c, math.MaxInt)
	return out + x
}

func wantModel(t *testing.T, r *rand.Rand, l []api.Tenant, in string) {
	t.Helper()
	want := modelOf(l, in)
	s := dialled(t, 1, l...)
	s.Feed(0, in)
	if got, e := s.Take(0, math.MaxInt); got != want || e != api.OK {
		t.Fatalf("P6: %q\n is answered %q, %d\n want %q", in, got, e, want)
	}
	if got := cutOf(r, dialled(t, 1, l...), 0, in); got != want {
		t.Fatalf("P7: %q\n in pieces is answered %q\n want %q", in, got, want)
	}
}

func TestAsTheModel(t *testing.T) {
	r := rand.New(rand.NewSource(1))
	seen := ""
	for range 4000 {
		l := []api.Tenant{tenant("ann", "x", 1+r.Intn(pick(r, 60, 150, 300, 2000))), tenant("bob", "x", 1+r.Intn(300)), tenant("eve", "y", 100)}
		in := bytesOf(r, "ann", "bob", "eve", "dan")
		wantModel(t, r, l, in)
		seen += modelOf(l, in)
	}
	for _, answer := range []string{"OK", "DENIED", "ERROR auth", "ERROR bad", "ERROR long", "ERROR data", "STORED", "NOT STORED", "NOT FOUND", "EXISTS", "TOO LARGE", "END", "DELETED", "NOT NUMBER", "TOUCHED", "evicted [1-9]", "(STORED|END|FOUND|bad)\n[0-9]+"} {
		if n := len(regexp.MustCompile("(?m)^"+answer+"$").FindAllString(seen, -1)); n < 50 {
			t.Errorf("only %d times was the answer %q: the bytes are not the ones to try", n, answer)
		}
	}
}

func FuzzFeed(f *testing.F) {
	r := rand.New(rand.NewSource(2))
	for seed := range int64(20) {
		f.Add(bytesOf(r, "ann", "bob"), seed, 150)
	}
	f.Fuzz(func(t *testing.T, in string, seed int64, quota int) {
		l := []api.Tenant{tenant("ann", "x", 1+int(uint(quota)%2000)), tenant("bob", "x", 100)}
		wantModel(t, rand.New(rand.NewSource(seed)), l, in)
	})
}
