// Package cloakroom: a cache server for several tenants: see DOC.md.
package cloakroom

import (
	"slices"
	"strings"

	"cloakroom/api"
	"cloakroom/command"
	"cloakroom/conn"
)

// Server serves connections.
type Server struct {
	tenants map[string]tenant // by name
	conns   []*conn.Conn      // by number: nil where there is none
	now     int               // the time, in seconds
}

// Line tells what a line is (P3).
func Line(line string) string {
	read, ok := command.Read(line)
	if !ok {
		return "bad"
	}
	// A piece of the line would hold the whole of it in memory.
	return strings.Clone(read.Name)
}

// Open makes a server (P4).
func Open(l []api.Tenant, conns int) (*Server, api.Errno) {
	tenants, ok := byName(l)
	if !ok {
		return nil, api.ErrTenants
	}
	if conns < 1 || conns > api.MaxConns {
		return nil, api.ErrArg
	}
	return &Server{tenants: tenants, conns: make([]*conn.Conn, conns)}, api.OK
}

// Dial opens a connection (P5).
func (s *Server) Dial() (int, api.Errno) {
	c := slices.Index(s.conns, nil)
	if c < 0 {
		return 0, api.ErrFull
	}
	s.conns[c] = conn.New(s.storeOf)
	return c, api.OK
}

// Hang ends one (P5).
func (s *Server) Hang(c int) api.Errno {
	if !s.has(c) {
		return api.ErrNone
	}
	s.conns[c] = nil
	return api.OK
}

// Feed gives a connection bytes (P6 to P9).
func (s *Server) Feed(c int, bytes string) api.Errno {
	if !s.has(c) {
		return api.ErrNone
	}
	s.conns[c].Feed(bytes)
	return api.OK
}

// Take takes at most n bytes of what was answered (P6).
func (s *Server) Take(c int, n int) (string, api.Errno) {
	if !s.has(c) {
		return "", api.ErrNone
	}
	return s.conns[c].Take(n), api.OK
}

// Tick lets time go by (P10).
func (s *Server) Tick(n int) api.Errno {
	if n < 0 || n > api.MaxTime || s.now+n > api.MaxClock {
		return api.ErrArg
	}
	s.now += n
	s.lookOver()
	return api.OK
}

func (s *Server) has(c int) bool {
	return c >= 0 && c < len(s.conns) && s.conns[c] != nil
}
