package dag

import (
	"cmp"
	"slices"
	"strings"

	"covey/api"
	"covey/res"
)

// state is which events stand for which pairs, by rising type, then key. It is never changed, since many events have one and the same.
type state struct{ nodes []*node }

// search is the place of a pair in a state, and whether it has an event for it.
func (s *state) search(kind, key string) (int, bool) {
	return slices.BinarySearchFunc(s.nodes, api.Entry{Type: kind, Key: key}, func(n *node, pair api.Entry) int {
		return cmp.Or(strings.Compare(n.event.Type, pair.Type), strings.Compare(n.event.Key, pair.Key))
	})
}

// find are the events that a state has for some pairs, in their order.
func (s *state) find(pairs []api.Entry) []*node {
	var found []*node
	for _, pair := range pairs {
		if at, ok := s.search(pair.Type, pair.Key); ok {
			found = append(found, s.nodes[at])
		}
	}
	return found
}

// with is a state, but with an event for its pair.
func (s *state) with(n *node) *state {
	at, has := s.search(n.event.Type, n.event.Key)
	rest := s.nodes[at:]
	if has {
		rest = rest[1:]
	}
	return &state{slices.Concat(s.nodes[:at], []*node{n}, rest)}
}

// told is a state as it is answered, of memory of its own.
func (s *state) told() api.State {
	var told api.State
	for _, n := range s.nodes {
		e := n.event
		told = append(told, api.Entry{Type: strings.Clone(e.Type), Key: strings.Clone(e.Key), ID: strings.Clone(e.ID)})
	}
	return told
}

// resolved is one state out of those behind some events.
func (r *Room) resolved(behind []*node) *state {
	states := statesBehind(behind)
	switch len(states) {
	case 0:
		return &state{}
	case 1:
		// Of one state res.Resolve is that state: most rooms have just one at most times, and no event need be looked at.
		return states[0]
	}
	var told []api.State
	for _, s := range states {
		told = append(told, s.told())
	}
	rejected := slices.DeleteFunc(slices.Clone(r.order), func(n *node) bool { return !n.isRejected() })
	return r.stateOf(res.Resolve(told, eventsOf(r.order), idsOf(rejected)))
}

// statesBehind are the states behind some events, each once.
func statesBehind(nodes []*node) []*state {
	var states []*state
	seen := map[*state]struct{}{}
	for _, n := range nodes {
		if _, twice := seen[n.behind]; !twice {
			seen[n.behind] = struct{}{}
			states = append(states, n.behind)
		}
	}
	return states
}

// stateOf is the state that some entries tell.
func (r *Room) stateOf(entries api.State) *state {
	s := &state{}
	for _, entry := range entries {
		s.nodes = append(s.nodes, r.events[entry.ID])
	}
	return s
}
