package cloakroom

import (
	"maps"
	"testing"

	"cloakroom/api"
)

// What a server keeps of its tenants can't be seen by its calls as yet, so this test looks inside.
func TestOpenKeepsItsTenantsWhateverBecomesOfTheList(t *testing.T) {
	l := []api.Tenant{{Name: "ann", Token: "x", Quota: 100}, {Name: "bob", Token: "~!", Quota: 2000}}
	s, e := Open(l, 2)
	if e != api.OK {
		t.Fatalf("P4: Open = %d", e)
	}
	want := map[string]api.Tenant{"ann": l[0], "bob": l[1]}
	if !maps.Equal(s.tenants, want) {
		t.Errorf("P4: the tenants are %v, want %v", s.tenants, want)
	}
	l[0], l[1] = api.Tenant{Name: "eve", Token: "y", Quota: 1}, api.Tenant{}
	if !maps.Equal(s.tenants, want) {
		t.Errorf("P2: behind a change of the list the tenants are %v, want %v", s.tenants, want)
	}
}

func TestServersDoNotShareTenants(t *testing.T) {
	l := []api.Tenant{{Name: "ann", Token: "x", Quota: 100}}
	a, _ := Open(l, 1)
	b, _ := Open(l, 1)
	delete(a.tenants, "ann")
	if len(b.tenants) != 1 {
		t.Errorf("P2: the tenants of two servers are one map")
	}
}
