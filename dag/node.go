package dag

import (
	"slices"
	"strings"

	"covey/api"
)

// node is an event that is known.
type node struct {
	event  api.Event
	mark   int
	ahead  *state // as long as it is Staged there is none, nor one behind
	behind *state
}

func (n *node) isRejected() bool { return n.mark == api.Rejected }

// idsOf are the IDs of some events, of memory of their own.
func idsOf(nodes []*node) []string {
	var ids []string
	for _, n := range nodes {
		ids = append(ids, strings.Clone(n.event.ID))
	}
	return ids
}

// eventsOf are some events, as the layers below are asked of them: they keep nothing.
func eventsOf(nodes []*node) []api.Event {
	events := make([]api.Event, 0, len(nodes))
	for _, n := range nodes {
		events = append(events, n.event)
	}
	return events
}

// copyOfEvent is the same event in memory of its own.
func copyOfEvent(e api.Event) api.Event {
	e.ID, e.Type, e.Room = strings.Clone(e.ID), strings.Clone(e.Type), strings.Clone(e.Room)
	e.Sender, e.Key = strings.Clone(e.Sender), strings.Clone(e.Key)
	e.Prev, e.Auth = copyOfTexts(e.Prev), copyOfTexts(e.Auth)
	e.Content, e.Raw = copyOfValue(e.Content), copyOfValue(e.Raw)
	return e
}

func copyOfTexts(texts []string) []string {
	texts = slices.Clone(texts)
	for i, s := range texts {
		texts[i] = strings.Clone(s)
	}
	return texts
}

// copyOfValue is the same value in memory of its own, what its kind doesn't use too.
func copyOfValue(v api.Value) api.Value {
	v.Text = strings.Clone(v.Text)
	v.List = slices.Clone(v.List)
	for i, element := range v.List {
		v.List[i] = copyOfValue(element)
	}
	v.Fields = slices.Clone(v.Fields)
	for i, f := range v.Fields {
		v.Fields[i] = api.Field{Name: strings.Clone(f.Name), Value: copyOfValue(f.Value)}
	}
	return v
}
