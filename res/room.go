package res

import (
	"cmp"
	"slices"
	"strings"

	"covey/api"
)

// set is some events, by their IDs.
type set map[string]struct{}

// has tells whether an event is one of a set.
func (s set) has(id string) bool {
	_, ok := s[id]
	return ok
}

// add makes an event one of a set, and tells whether it wasn't yet.
func (s set) add(id string) bool {
	isNew := !s.has(id)
	s[id] = struct{}{}
	return isNew
}

// state is which event stands for each pair (an entry without an ID).
type state map[api.Entry]*api.Event

// entries are a state's as they are answered, of memory of their own.
func (s state) entries() api.State {
	var all api.State
	for pair, e := range s {
		all = append(all, api.Entry{Type: strings.Clone(pair.Type), Key: strings.Clone(pair.Key), ID: strings.Clone(e.ID)})
	}
	slices.SortFunc(all, func(a, b api.Entry) int {
		return cmp.Or(strings.Compare(a.Type, b.Type), strings.Compare(a.Key, b.Key))
	})
	return all
}

// room is the events that there are.
type room struct {
	events   map[string]*api.Event // by their IDs
	rejected set
}

// newRoom is a room of some events; of several with one ID the first, of those without one none.
func newRoom(events []api.Event, rejected []string) room {
	r := room{make(map[string]*api.Event, len(events)), set{}}
	for i := range events {
		e := &events[i]
		if e.ID != "" && r.events[e.ID] == nil {
			r.events[e.ID] = e
		}
	}
	for _, id := range rejected {
		r.rejected.add(id)
	}
	return r
}

// stateOf is a state by those of its entries that count.
func (r room) stateOf(entries api.State) state {
	s := state{}
	for _, entry := range entries {
		pair := api.Entry{Type: entry.Type, Key: entry.Key}
		if e := r.events[entry.ID]; e != nil && s[pair] == nil {
			s[pair] = e
		}
	}
	return s
}

// listed are the events of a set, in no order.
func (r room) listed(s set) []*api.Event {
	var all []*api.Event
	for id := range s {
		all = append(all, r.events[id])
	}
	return all
}

// walk goes from some events to those that their Auth names, and on from those that it enters. Chains may be long: so there is a list of what is left, and no recursion.
func (r room) walk(from []*api.Event, enters func(e *api.Event) bool) {
	left := slices.Clone(from)
	for len(left) > 0 {
		last := len(left) - 1
		e := left[last]
		left = left[:last]
		for _, id := range e.Auth {
			if next := r.events[id]; next != nil && enters(next) {
				left = append(left, next)
			}
		}
	}
}

// chain is the chains of some events together.
func (r room) chain(of []*api.Event) set {
	chain := set{}
	r.walk(of, func(e *api.Event) bool { return chain.add(e.ID) })
	return chain
}

// authority is an event's authority for a pair; nil: it has none.
func (r room) authority(e *api.Event, pair api.Entry) *api.Event {
	for _, id := range e.Auth {
		by := r.events[id]
		if by != nil && by.HasKey && by.Type == pair.Type && by.Key == pair.Key && !r.rejected.has(id) {
			return by
		}
	}
	return nil
}

// authorising are the events that authorise an event for some pairs, in their order: a state's, and where it has none the event's authorities.
func (r room) authorising(now state, e *api.Event, pairs []api.Entry) []api.Event {
	var l []api.Event
	for _, pair := range pairs {
		by := now[pair]
		if by == nil {
			by = r.authority(e, pair)
		}
		if by != nil {
			l = append(l, *by)
		}
	}
	return l
}
