package cloakroom

import (
	"strings"

	"cloakroom/api"
	"cloakroom/bounds"
)

// byName answers false if these tenants may not be together on a server.
func byName(l []api.Tenant) (map[string]api.Tenant, bool) {
	if len(l) < 1 || len(l) > api.MaxTenants {
		return nil, false
	}
	tenants := make(map[string]api.Tenant, len(l))
	for _, t := range l {
		_, twice := tenants[t.Name]
		if twice || !mayBe(t) {
			return nil, false
		}
		// A name or a token may be a piece of a longer text, which should not be kept with it.
		t.Name, t.Token = strings.Clone(t.Name), strings.Clone(t.Token)
		tenants[t.Name] = t
	}
	return tenants, true
}

func mayBe(t api.Tenant) bool {
	return bounds.Letters(t.Name, api.MaxName) &&
		bounds.Word(t.Token, api.MaxToken) &&
		t.Quota >= 1 && t.Quota <= api.MaxQuota
}
