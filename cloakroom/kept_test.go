package cloakroom_test

import (
	"strings"
	"testing"
	"unsafe"

	"cloakroom/api"
	"cloakroom/cloakroom"
)

// The tenants' names, tokens and quotas can be seen by auth and by what is too large.
func TestOpenKeepsItsTenantsWhateverBecomesOfTheList(t *testing.T) {
	l := []api.Tenant{{Name: "ann", Token: "x", Quota: 20}, {Name: "bob", Token: "~!", Quota: 19}}
	s := dialled(t, 1, l...)
	l[0], l[1] = api.Tenant{Name: "eve", Token: "y", Quota: 1}, api.Tenant{Name: "bob", Token: "z", Quota: 2000}
	says(t, s, 0, "auth eve y|auth bob z|auth ann y|", "DENIED|DENIED|DENIED|")
	says(t, s, 0, "auth ann x|set a 0 0 3|123|set a 0 0 4|1234|", "OK|STORED|TOO LARGE|")
	says(t, s, 0, "auth bob ~!|set a 0 0 2|12|set a 0 0 3|123|", "OK|STORED|TOO LARGE|")
}

// textOf answers a string that lies in the room of the bytes, so that who keeps it keeps what a caller can change.
func textOf(bytes []byte) string { return unsafe.String(unsafe.SliceData(bytes), len(bytes)) }

// room is where a text lies that is fed: on the heap, as what lies on the stack is copied by the language itself.
var room []byte

func TestNothingHandedInIsKept(t *testing.T) {
	name, token := []byte("ann"), []byte("secret")
	s := dialled(t, 1, api.Tenant{Name: textOf(name), Token: textOf(token), Quota: 2000})
	copy(name, "eve")
	copy(token, "wrong!")
	feed := func(text string) {
		room = []byte(text)
		s.Feed(0, textOf(room))
		for i := range room {
			room[i] = '?'
		}
	}
	feed("auth ann sec")
	feed("ret\nset some 7 0 5")
	feed("\n")
	feed("val")
	feed("ue\nset another 8 0 3\nabc\n")
	feed("set third 0 0 1\n")
	feed("z\nget some ano")
	feed("ther third\n")
	feed(strings.Repeat("x", 120))
	feed("\n")
	feed("set count 9 0 2\n07\nincr count 3\ntouch some 9\ndelete third\nset large 0 0 60\n" + strings.Repeat("l", 60) + "\n")
	says(t, s, 0, "", "OK|STORED|STORED|STORED|VALUE some 7 5 1|value|VALUE another 8 3 2|abc|VALUE third 0 1 3|z|END|ERROR bad|STORED|10|TOUCHED|DELETED|STORED|")
	says(t, s, 0, "get some another third count|incr count 1|touch some 0|get count some|", "VALUE some 7 5 1|value|VALUE another 8 3 2|abc|VALUE count 9 2 5|10|END|11|TOUCHED|VALUE count 9 2 7|11|VALUE some 7 5 1|value|END|")
}

func TestWhatWasTakenStaysAsItIs(t *testing.T) {
	s := dialled(t, 1, tenant("ann", "x", 2000))
	s.Feed(0, "auth ann x\nset a 0 0 3\nabc\n")
	var taken []string
	for range 5 {
		x, _ := s.Take(0, 2)
		taken = append(taken, x)
		s.Feed(0, "set a 0 0 3\nxyz\nget a\n")
	}
	if got := strings.Join(taken, ""); got != "OK\nSTORED\n" {
		t.Errorf("P2: what was taken reads %q", got)
	}
}

func TestServersDoNotShareTenants(t *testing.T) {
	l := []api.Tenant{tenant("ann", "x", 100), tenant("bob", "x", 100)}
	a, b := dialled(t, 1, l...), dialled(t, 1, l...)
	says(t, a, 0, "auth ann x|set a 0 0 1|1|get a|", "OK|STORED|VALUE a 0 1 1|1|END|")
	says(t, b, 0, "get a|", "ERROR auth|")
	says(t, b, 0, "auth ann x|get a|set a 5 0 1|2|set b 0 0 0||", "OK|END|STORED|STORED|")
	says(t, a, 0, "get a b|", "VALUE a 0 1 1|1|END|")
	says(t, b, 0, "get a b|", "VALUE a 5 1 1|2|VALUE b 0 0 2||END|")
	cloakroom.Open(l, 1)
	says(t, a, 0, "get a b|", "VALUE a 0 1 1|1|END|")
}
