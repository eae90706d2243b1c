// Package conn is one connection: it goes on with the bytes it is fed as far as it can, and keeps what it answers till that is taken.
package conn

import (
	"strconv"
	"strings"

	"cloakroom/api"
	"cloakroom/command"
	"cloakroom/store"
)

// want is what a connection waits for.
type want int

const (
	aLine    want = iota
	aValue        // behind the line of a command that stores
	aNewline      // all up to it is passed over
	nothing       // it has quit
)

// Finder answers the store of the tenant of a name and a token, or nil if there is none.
type Finder func(name, token string) *store.Store

// Conn is a connection.
type Conn struct {
	find    Finder
	store   *store.Store // of whom it belongs to; nil: it belongs to nobody
	wants   want
	waiting command.Command // the one that wants a value
	rest    string          // the bytes that it can't go on with yet: never more than MaxLine
	answers []byte          // not taken yet
}

// New makes a connection that belongs to nobody.
func New(find Finder) *Conn { return &Conn{find: find} }

// Feed goes on with these bytes behind those that are there.
func (c *Conn) Feed(bytes string) {
	there, on := c.rest+bytes, true
	for on {
		there, on = c.step(there)
	}
	// What is left is a small piece of what may be a long text.
	c.rest = strings.Clone(there)
}

// Take answers the first n bytes that were answered and not taken, or as many as there are.
func (c *Conn) Take(n int) string {
	n = max(0, min(n, len(c.answers)))
	taken := string(c.answers[:n])
	c.answers = c.answers[n:]
	if len(c.answers) == 0 {
		c.answers = nil // an empty piece would hold the room of all that was ever there
	}
	return taken
}

// step does one thing with the bytes that are there, and answers those that are left; false, if they are too few to go on with.
func (c *Conn) step(there string) (string, bool) {
	switch c.wants {
	case aLine:
		return c.takeLine(there)
	case aValue:
		return c.takeValue(there)
	case aNewline:
		return c.passOver(there)
	}
	return "", false
}

func (c *Conn) takeLine(there string) (string, bool) {
	// A newline further on ends a line that is too long, just as one that has not come yet.
	end := strings.IndexByte(there[:min(len(there), api.MaxLine+1)], '\n')
	if end >= 0 {
		c.doLine(strings.TrimSuffix(there[:end], "\r"))
		return there[end+1:], true
	}
	if len(there) > api.MaxLine {
		c.say("ERROR long")
		c.wants = aNewline
		return there, true
	}
	return there, false
}

func (c *Conn) takeValue(there string) (string, bool) {
	size := c.waiting.Size()
	if len(there) <= size {
		return there, false
	}
	if there[size] != '\n' {
		c.say("ERROR data")
		c.wants = aNewline
		return there[size:], true
	}
	c.say(c.storeValue(there[:size]))
	c.wants = aLine
	return there[size+1:], true
}

func (c *Conn) passOver(there string) (string, bool) {
	_, behind, found := strings.Cut(there, "\n")
	if found {
		c.wants = aLine
	}
	return behind, found
}

func (c *Conn) doLine(line string) {
	// A command may wait for its value, and must not hold all that was fed together with its line.
	read, good := command.Read(strings.Clone(line))
	switch {
	case good && read.Name == "auth":
		c.auth(read.Texts[0], read.Texts[1])
	case good && read.Name == "quit":
		c.wants = nothing
	case c.store == nil:
		c.say("ERROR auth")
	case !good:
		c.say("ERROR bad")
	case read.Stores():
		c.waiting, c.wants = read, aValue
	default:
		c.doAtOnce(read)
	}
}

// doAtOnce does a command that wants no value.
func (c *Conn) doAtOnce(read command.Command) {
	switch read.Name {
	case "get":
		c.get(read.Texts)
	case "delete":
		c.say(c.store.Delete(read.Key()))
	case "incr":
		c.say(c.store.Incr(read.Key(), read.Number()))
	case "touch":
		c.say(c.store.Touch(read.Key(), read.Life()))
	case "stats":
		c.stats()
	}
}

func (c *Conn) auth(name, token string) {
	found := c.find(name, token)
	if found == nil {
		c.say("DENIED")
		return
	}
	c.store = found
	c.say("OK")
}

func (c *Conn) get(keys []string) {
	for _, key := range keys {
		if e, there := c.store.Get(key); there {
			c.say("VALUE", key, strconv.Itoa(e.Flags), strconv.Itoa(len(e.Value)), strconv.Itoa(e.Mark))
			c.say(e.Value)
		}
	}
	c.say("END")
}

func (c *Conn) stats() {
	s := c.store.Stats()
	c.count("gets", s.Gets)
	c.count("hits", s.Hits)
	c.count("stores", s.Stores)
	c.count("evicted", s.Evicted)
	c.count("expired", s.Expired)
	c.count("items", s.Items)
	c.count("bytes", s.Bytes)
	c.say("END")
}

func (c *Conn) count(name string, n int) { c.say(name, strconv.Itoa(n)) }

func (c *Conn) storeValue(value string) string {
	i := store.Item{Key: c.waiting.Key(), Value: value, Flags: c.waiting.Flags()}
	life := c.waiting.Life()
	switch c.waiting.Name {
	case "add":
		return c.store.Add(i, life)
	case "replace":
		return c.store.Replace(i, life)
	case "cas":
		return c.store.Cas(i, life, c.waiting.Mark())
	}
	return c.store.Set(i, life)
}

// say answers one line.
func (c *Conn) say(words ...string) {
	c.answers = append(c.answers, strings.Join(words, " ")...)
	c.answers = append(c.answers, '\n')
}
