package dag_test

import (
	"slices"
	"sort"

	"covey/api"
	"covey/auth"
	"covey/names"
	"covey/res"
)

// The oracle tells P18.2 to P18.5 anew, as their words stand: it keeps a list of what was taken and one of what was marked, seeks all else in these, and asks res.Resolve of all that is marked, also where there is one state or none.

type oracle struct {
	room   string
	taken  []api.Event
	marked []told // in their order
	seen   map[string]int
}

// told is an event with its mark, why it has that one, and its states.
type told struct {
	e             api.Event
	mark          int
	why           string
	ahead, behind api.State
}

// Why an event has its mark.
const (
	byAuthRejected = "rejected: one of its Auth is"
	byAuth         = "rejected: by its Auth"
	byAhead        = "rejected: by the state ahead"
	byNow          = "soft: by the state of now"
	byNothing      = "accepted"
)

func newOracle(room string) *oracle {
	if !names.Room(room) {
		return nil
	}
	return &oracle{room: room, seen: map[string]int{}}
}

// at is the number of a marked event; -1: it isn't marked.
func (o *oracle) at(id string) int {
	return slices.IndexFunc(o.marked, func(m told) bool { return m.e.ID == id })
}

// known is the number of a taken event; -1: it wasn't taken.
func (o *oracle) known(id string) int {
	return slices.IndexFunc(o.taken, func(e api.Event) bool { return e.ID == id })
}

func (o *oracle) mark(id string) int {
	if i := o.at(id); i >= 0 {
		return o.marked[i].mark
	}
	if o.known(id) >= 0 {
		return api.Staged
	}
	return api.Unknown
}

// waits tells whether one of the events that e names isn't marked.
func (o *oracle) waits(e api.Event) bool {
	for _, id := range append(slices.Clone(e.Prev), e.Auth...) {
		if o.at(id) < 0 {
			return true
		}
	}
	return false
}

func (o *oracle) take(e api.Event) (int, []string, error) {
	if e.ID == "" || e.Room != o.room {
		return 0, nil, api.ErrForm
	}
	for _, id := range append(slices.Clone(e.Prev), e.Auth...) {
		if id == e.ID {
			return 0, nil, api.ErrForm
		}
	}
	if o.known(e.ID) >= 0 {
		return 0, nil, api.ErrKnown
	}
	if len(o.taken) >= 4096 {
		return 0, nil, api.ErrFull
	}
	if o.waits(e) {
		if len(o.staged()) >= 64 {
			return 0, nil, api.ErrFull
		}
		o.taken = append(o.taken, e)
		return 1, nil, nil
	}
	o.taken = append(o.taken, e)
	o.give(e)
	var more []string
again:
	for _, id := range o.staged() {
		if next := o.taken[o.known(id)]; !o.waits(next) {
			o.give(next)
			more = append(more, id)
			goto again
		}
	}
	if len(more) > 1 {
		o.seen["several others"]++
	}
	return o.mark(e.ID), more, nil
}

// give gives an event its mark.
func (o *oracle) give(e api.Event) {
	m := told{e: e}
	m.ahead = o.behind(e.Prev)
	m.mark, m.why = o.judge(e, m.ahead)
	o.seen[m.why]++
	if distinct := o.distinct(e.Prev); distinct > 1 {
		o.seen["several states"]++
	}
	m.behind = m.ahead
	if e.HasKey && m.mark != api.Rejected {
		m.behind = slices.DeleteFunc(slices.Clone(m.ahead), func(x api.Entry) bool { return x.Type == e.Type && x.Key == e.Key })
		m.behind = append(m.behind, api.Entry{Type: e.Type, Key: e.Key, ID: e.ID})
		sort.SliceStable(m.behind, func(i, j int) bool {
			a, b := m.behind[i], m.behind[j]
			return a.Type < b.Type || a.Type == b.Type && a.Key < b.Key
		})
	}
	o.marked = append(o.marked, m)
}

// judge is an event's mark, and why it is that.
func (o *oracle) judge(e api.Event, ahead api.State) (int, string) {
	var l []api.Event
	for _, id := range e.Auth {
		m := o.marked[o.at(id)]
		if m.mark == api.Rejected {
			return api.Rejected, byAuthRejected
		}
		l = append(l, m.e)
	}
	if auth.Check(e, l) != 0 {
		return api.Rejected, byAuth
	}
	if auth.Check(e, o.of(ahead, e)) != 0 {
		return api.Rejected, byAhead
	}
	if len(e.Prev) > 0 && auth.Check(e, o.of(o.now(), e)) != 0 {
		return api.Soft, byNow
	}
	return api.Accepted, byNothing
}

// of are the events that a state has for the pairs that may authorise one.
func (o *oracle) of(s api.State, e api.Event) []api.Event {
	var l []api.Event
	for _, p := range auth.Select(e) {
		for _, x := range s {
			if x.Type == p.Type && x.Key == p.Key {
				l = append(l, o.marked[o.at(x.ID)].e)
			}
		}
	}
	return l
}

// behind is one state out of those behind some events.
func (o *oracle) behind(ids []string) api.State {
	var states []api.State
	for _, id := range ids {
		states = append(states, o.marked[o.at(id)].behind)
	}
	var events []api.Event
	var rejected []string
	for _, m := range o.marked {
		events = append(events, m.e)
		if m.mark == api.Rejected {
			rejected = append(rejected, m.e.ID)
		}
	}
	return res.Resolve(states, events, rejected)
}

// distinct is how many unlike states are behind some events.
func (o *oracle) distinct(ids []string) int {
	var states []api.State
	for _, id := range ids {
		s := o.marked[o.at(id)].behind
		if !slices.ContainsFunc(states, func(x api.State) bool { return slices.Equal(x, s) }) {
			states = append(states, s)
		}
	}
	return len(states)
}

func (o *oracle) ends() []string {
	isEnd := map[string]bool{}
	for _, m := range o.marked {
		if m.mark == api.Accepted {
			isEnd[m.e.ID] = true
			for _, id := range m.e.Prev {
				isEnd[id] = false
			}
		}
	}
	var ends []string
	for id, is := range isEnd {
		if is {
			ends = append(ends, id)
		}
	}
	sort.Strings(ends)
	return ends
}

func (o *oracle) now() api.State { return o.behind(o.ends()) }

func (o *oracle) staged() []string {
	var staged []string
	for _, e := range o.taken {
		if o.at(e.ID) < 0 {
			staged = append(staged, e.ID)
		}
	}
	return staged
}

func (o *oracle) order() []string {
	var order []string
	for _, m := range o.marked {
		order = append(order, m.e.ID)
	}
	return order
}

func (o *oracle) missing() []string {
	isMissing := map[string]bool{}
	for _, id := range o.staged() {
		e := o.taken[o.known(id)]
		for _, other := range append(slices.Clone(e.Prev), e.Auth...) {
			if o.known(other) < 0 {
				isMissing[other] = true
			}
		}
	}
	var missing []string
	for id := range isMissing {
		missing = append(missing, id)
	}
	sort.Strings(missing)
	return missing
}

func (o *oracle) top() int64 {
	var depths []int64
	for _, m := range o.marked {
		depths = append(depths, m.e.Depth)
	}
	if len(depths) == 0 {
		return 0
	}
	return slices.Max(depths)
}
