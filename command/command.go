// Package command reads the lines of the protocol: which command a line is, and what is said with it.
package command

import (
	"slices"
	"strconv"
	"strings"

	"cloakroom/api"
	"cloakroom/bounds"
)

// mostWords is what the longest command has: a get of as many keys as it may ask for.
const mostWords = 1 + api.MaxKeys

// Command is a line that is not bad.
type Command struct {
	Name    string
	Texts   []string // the words behind the name that are no numbers: keys, or a tenant's name and its token
	Numbers []int    // those that are
}

// Read answers the command that a line (without its newline) is, or false if the line is bad.
// The texts are pieces of the line: who keeps one keeps the whole line, and should clone it.
func Read(line string) (Command, bool) {
	// One word more than any command has shows that there are too many, so a long line makes no long list.
	words := strings.SplitN(line, " ", mostWords+1)
	s, known := shapeOf(words[0])
	if !known || !s.fits(words[1:]) {
		return Command{}, false
	}
	c := Command{Name: words[0]}
	for i, w := range words[1:] {
		if s.rules[i].isNumber {
			n, _ := numberOf(w)
			c.Numbers = append(c.Numbers, n)
		} else {
			c.Texts = append(c.Texts, w)
		}
	}
	return c, true
}

// Stores tells whether the command is one of those that have flags and a size, and want a value behind their line.
func (c Command) Stores() bool {
	switch c.Name {
	case "set", "add", "replace", "cas":
		return true
	}
	return false
}

// Key is for a command that has one.
func (c Command) Key() string { return c.Texts[0] }

// Flags is for a command that stores.
func (c Command) Flags() int { return c.Numbers[0] }

// Life is for a command that stores, and for touch.
func (c Command) Life() int {
	if c.Stores() {
		return c.Numbers[1]
	}
	return c.Numbers[0]
}

// Size is for a command that stores.
func (c Command) Size() int { return c.Numbers[2] }

// Mark is for cas.
func (c Command) Mark() int { return c.Numbers[3] }

// Number is for incr.
func (c Command) Number() int { return c.Numbers[0] }

// shape says what may stand behind a command: a rule for each word, of which the first few must be there.
type shape struct {
	least int
	rules []rule
}

func (s shape) fits(words []string) bool {
	if len(words) < s.least || len(words) > len(s.rules) {
		return false
	}
	for i, w := range words {
		if !s.rules[i].allows(w) {
			return false
		}
	}
	return true
}

func shapeOf(name string) (shape, bool) {
	key, life := text(api.MaxKey), number(api.MaxTime)
	flags, size := number(api.MaxFlags), number(api.MaxValue)
	switch name {
	case "auth":
		return allOf(text(api.MaxName), text(api.MaxToken)), true
	case "quit", "stats":
		return allOf(), true
	case "get":
		return shape{1, slices.Repeat([]rule{key}, api.MaxKeys)}, true
	case "set", "add", "replace":
		return allOf(key, flags, life, size), true
	case "cas":
		return allOf(key, flags, life, size, number(api.MaxNumber)), true
	case "delete":
		return allOf(key), true
	case "incr":
		return allOf(key, number(api.MaxNumber)), true
	case "touch":
		return allOf(key, life), true
	}
	return shape{}, false
}

func allOf(rules ...rule) shape { return shape{len(rules), rules} }

// rule says what one word may be: a number of at most so much, or any word of at most so many bytes.
type rule struct {
	isNumber bool
	most     int
}

func text(most int) rule { return rule{false, most} }

func number(most int) rule { return rule{true, most} }

func (r rule) allows(word string) bool {
	if r.isNumber {
		n, ok := numberOf(word)
		return ok && n <= r.most
	}
	return bounds.Word(word, r.most)
}

func numberOf(word string) (int, bool) {
	if len(word) > 1 && word[0] == '0' {
		return 0, false
	}
	// ParseUint takes digits alone: no sign, no blank, and in base 10 no underscore.
	n, err := strconv.ParseUint(word, 10, 64)
	if err != nil || n > api.MaxNumber {
		return 0, false
	}
	return int(n), true
}
