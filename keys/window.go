package keys

import (
	"errors"
	"strings"

	"covey/api"
	"covey/names"
)

// pair is a server, and the name of a key of its.
type pair struct{ server, key string }

// window is a key's bytes, and when they are valid: from a stamp on, up to, but not at another.
type window struct {
	public      [32]byte
	from, until int64
}

// missing is an error: there is no such key at that time.
type missing struct {
	server bool // nor any other key of its server at any time
}

func (m *missing) Error() string { return m.Unwrap().Error() }

func (m *missing) Unwrap() error {
	if m.server {
		return api.ErrPeer
	}
	return api.ErrKey
}

// codeOf is the Code in an error: the error itself, or what a fault or something missing wraps.
func codeOf(err error) error {
	var code api.Code
	errors.As(err, &code)
	return code
}

// mayBe tells whether a peer may be known.
func mayBe(p api.Peer) bool {
	return names.Server(p.Name) && names.Key(p.Key) && len(p.Public) == 32 && p.From >= 0 && p.Until > p.From
}

// learn keeps a key, unless it is known: what was said of it first stays.
func (s *Store) learn(p pair, w window) {
	if _, known := s.windows[p]; !known {
		// Clones, since what is handed in is not kept.
		s.windows[pair{strings.Clone(p.server), strings.Clone(p.key)}] = w
	}
}

// valid is the key of a pair at a stamp; or an error that tells what is missing.
func (s *Store) valid(p pair, at int64) ([32]byte, error) {
	w, known := s.windows[p]
	if !known || at < w.from || at >= w.until {
		return [32]byte{}, &missing{server: !s.knows(p.server)}
	}
	return w.public, nil
}

// knows tells whether any key of a server is known.
func (s *Store) knows(server string) bool {
	for p := range s.windows {
		if p.server == server {
			return true
		}
	}
	return false
}
