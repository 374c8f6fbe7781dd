package dag

import (
	"slices"
	"strings"

	"covey/api"
	"covey/auth"
)

// isOpen tells whether an event isn't marked yet, or is Staged.
func (r *Room) isOpen(id string) bool { return r.Mark(id) <= api.Staged }

// waits tells whether an event names one that is open.
func (r *Room) waits(e api.Event) bool {
	return slices.ContainsFunc(e.Prev, r.isOpen) || slices.ContainsFunc(e.Auth, r.isOpen)
}

// named are the events of some IDs; none of these is open.
func (r *Room) named(ids []string) []*node {
	var named []*node
	for _, id := range ids {
		named = append(named, r.events[id])
	}
	return named
}

// check is why an event can't be taken.
func (r *Room) check(e api.Event, waits bool) error {
	switch {
	case e.ID == "" || e.Room != r.name || slices.Contains(e.Prev, e.ID) || slices.Contains(e.Auth, e.ID):
		return api.ErrForm
	case r.events[e.ID] != nil:
		return api.ErrKnown
	case len(r.events) >= api.MaxEvents || waits && len(r.staged) >= api.MaxStaged:
		return api.ErrFull
	}
	return nil
}

// settle gives an event its mark for good, and its states.
func (r *Room) settle(n *node) {
	n.ahead = r.resolved(r.named(n.event.Prev))
	n.mark = r.markOf(n)
	n.behind = n.ahead
	if n.event.HasKey && !n.isRejected() {
		n.behind = n.ahead.with(n)
	}
	r.order = append(r.order, n)
	if n.mark == api.Accepted {
		r.follow(n)
	}
}

// settleStaged settles those of the staged that wait for nothing any more; it begins anew behind each, since that may be what one ahead of it waited for. The answer is their IDs.
func (r *Room) settleStaged() []string {
	var ids []string
	for {
		at := slices.IndexFunc(r.staged, func(n *node) bool { return !r.waits(n.event) })
		if at < 0 {
			return ids
		}
		n := r.staged[at]
		r.staged = slices.Delete(r.staged, at, at+1)
		r.settle(n)
		ids = append(ids, strings.Clone(n.event.ID))
	}
}

// markOf is the mark of an event, the state ahead of which is known: P18.3.
func (r *Room) markOf(n *node) int {
	e := n.event
	named := r.named(e.Auth)
	pairs := auth.Select(e)
	isRefused := func(by []*node) bool { return auth.Check(e, eventsOf(by)) != 0 }
	switch {
	case slices.ContainsFunc(named, (*node).isRejected) || isRefused(named) || isRefused(n.ahead.find(pairs)):
		return api.Rejected
	case len(e.Prev) > 0 && isRefused(r.now.find(pairs)):
		return api.Soft
	}
	return api.Accepted
}

// follow makes an accepted event an end, in the place of those that it follows.
func (r *Room) follow(n *node) {
	r.ends = slices.DeleteFunc(r.ends, func(end *node) bool { return slices.Contains(n.event.Prev, end.event.ID) })
	at, _ := slices.BinarySearchFunc(r.ends, n.event.ID, func(end *node, id string) int { return strings.Compare(end.event.ID, id) })
	r.ends = slices.Insert(r.ends, at, n)
	r.now = r.resolved(r.ends)
}
