package cloakroom

import (
	"strings"
	"sync"

	"cloakroom/api"
	"cloakroom/bounds"
	"cloakroom/store"
)

// tenant is what is kept of one: the quota is the store's.
type tenant struct {
	token string
	store *store.Store
}

// byName answers false if these tenants may not be together on a server.
func byName(l []api.Tenant) (map[string]tenant, bool) {
	if len(l) < 1 || len(l) > api.MaxTenants {
		return nil, false
	}
	tenants := make(map[string]tenant, len(l))
	for _, t := range l {
		_, twice := tenants[t.Name]
		if twice || !mayBe(t) {
			return nil, false
		}
		// A name or a token may be a piece of a longer text, which should not be kept with it.
		tenants[strings.Clone(t.Name)] = tenant{strings.Clone(t.Token), store.New(t.Quota)}
	}
	return tenants, true
}

func mayBe(t api.Tenant) bool {
	return bounds.Letters(t.Name, api.MaxName) &&
		bounds.Word(t.Token, api.MaxToken) &&
		t.Quota >= 1 && t.Quota <= api.MaxQuota
}

// storeOf answers nil if there is no tenant of this name and token.
func (s *Server) storeOf(name, token string) *store.Store {
	t, there := s.tenants[name]
	if !there || t.token != token {
		return nil
	}
	return t.store
}

// lookOver lets go what has ended, each tenant's by a goroutine of its own. It waits for all of them, so that whatever is asked next finds the new time.
func (s *Server) lookOver() {
	var all sync.WaitGroup
	for _, t := range s.tenants {
		all.Go(func() { t.store.ComeTo(s.now) })
	}
	all.Wait()
}
