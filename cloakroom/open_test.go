package cloakroom_test

import (
	"fmt"
	"math"
	"strconv"
	"strings"
	"testing"

	"cloakroom/api"
	"cloakroom/cloakroom"
)

func tenant(name, token string, quota int) api.Tenant {
	return api.Tenant{Name: name, Token: token, Quota: quota}
}

func one(t api.Tenant) []api.Tenant { return []api.Tenant{t} }

func named(names ...string) []api.Tenant {
	var l []api.Tenant
	for _, name := range names {
		l = append(l, tenant(name, "x", 1))
	}
	return l
}

// told is short and of plain bytes, whatever the list is.
func told(l []api.Tenant) string {
	text := strconv.Itoa(len(l)) + " tenants:"
	for _, one := range l[:min(len(l), 6)] {
		text += fmt.Sprintf(" %.30q %.30q %d;", one.Name, one.Token, one.Quota)
	}
	return text
}

func wantOpen(t *testing.T, l []api.Tenant, conns int, want api.Errno) {
	t.Helper()
	s, e := cloakroom.Open(l, conns)
	if e != want {
		t.Errorf("P4: Open(%s, %d) = %d, want %d", told(l), conns, e, want)
	}
	if (s == nil) != (e != api.OK) {
		t.Errorf("P1: Open(%s, %d) = %d with the server %v", told(l), conns, e, s)
	}
}

func TestOpenHowManyTenants(t *testing.T) {
	wantOpen(t, nil, 1, api.ErrTenants)
	wantOpen(t, []api.Tenant{}, 1, api.ErrTenants)
	all := named("a", "b", "c", "d", "e", "f")
	for n := 1; n <= 5; n++ {
		wantOpen(t, all[:n], 1, api.OK)
	}
	wantOpen(t, all, 1, api.ErrTenants)
	wantOpen(t, make([]api.Tenant, 1000000), 1, api.ErrTenants)
}

func TestOpenNames(t *testing.T) {
	for _, name := range []string{"a", "z", "az", "abcdefgh", "zzzzzzzz"} {
		wantOpen(t, one(tenant(name, "x", 1)), 1, api.OK)
	}
	for _, name := range []string{"", "abcdefghi", "A", "Ann", "a1", "a b", "`", "{", "a\n", "a\x00", "\xff", "é", "aé", strings.Repeat("a", 5000000)} {
		wantOpen(t, one(tenant(name, "x", 1)), 1, api.ErrTenants)
	}
}

func TestOpenTokens(t *testing.T) {
	for _, token := range []string{"!", "~", "A1", "1234567890123456"} {
		wantOpen(t, one(tenant("a", token, 1)), 1, api.OK)
	}
	for _, token := range []string{"", " ", "12345678901234567", "x y", "x ", "x\n", "x\r", "\x00", "\x1f", "\x7f", "\x80", "\xff", "é", strings.Repeat("x", 5000000)} {
		wantOpen(t, one(tenant("a", token, 1)), 1, api.ErrTenants)
	}
}

func TestOpenQuotas(t *testing.T) {
	for _, quota := range []int{1, 2, 1999, 2000} {
		wantOpen(t, one(tenant("a", "x", quota)), 1, api.OK)
	}
	for _, quota := range []int{0, -1, 2001, math.MaxInt32 + 2, math.MaxInt, math.MinInt} {
		wantOpen(t, one(tenant("a", "x", quota)), 1, api.ErrTenants)
	}
}

func TestOpenSameName(t *testing.T) {
	for i := range 5 {
		for j := range i {
			l := named("a", "b", "c", "d", "e")
			l[i] = tenant(l[j].Name, "another", 7)
			wantOpen(t, l, 1, api.ErrTenants)
		}
	}
	// The same token and quota are no matter, nor is a name that begins like another.
	wantOpen(t, named("a", "aa", "aaa"), 1, api.OK)
}

func TestOpenLooksAtEachTenant(t *testing.T) {
	for i := range 5 {
		for _, wrong := range []api.Tenant{tenant("", "x", 1), tenant("q", "", 1), tenant("q", "x", 0), {}} {
			l := named("a", "b", "c", "d", "e")
			l[i] = wrong
			wantOpen(t, l, 1, api.ErrTenants)
		}
	}
}

func TestOpenConns(t *testing.T) {
	for conns := 1; conns <= 8; conns++ {
		wantOpen(t, named("a"), conns, api.OK)
	}
	for _, conns := range []int{0, -1, 9, 256 + 1, 1<<32 + 1, math.MaxInt, math.MinInt} {
		wantOpen(t, named("a"), conns, api.ErrArg)
	}
}

func TestOpenErrorNamedFirst(t *testing.T) {
	for _, conns := range []int{0, -1, 9, math.MaxInt, math.MinInt} {
		for _, l := range [][]api.Tenant{
			nil, named("a", "b", "c", "d", "e", "f"), named("A"), named("a", "a"),
			one(tenant("a", "", 1)), one(tenant("a", "x", 0)), one(tenant("a", "x", 2001)),
		} {
			wantOpen(t, l, conns, api.ErrTenants)
		}
	}
}

func TestOpenDoesNotWriteIntoItsList(t *testing.T) {
	for _, conns := range []int{1, 8, 0} {
		for n := range 8 {
			names := []string{"e", "c", "a", "d", "b", "f", "g", "h"}
			whole := named(names...)
			cloakroom.Open(whole[:n:8], conns)
			for i, want := range named(names...) {
				if whole[i] != want {
					t.Errorf("P2: behind Open of the first %d the %d-th reads %v, not %v", n, i, whole[i], want)
				}
			}
		}
	}
}
