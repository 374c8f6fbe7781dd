package make

import (
	"slices"
	"strings"

	"covey/api"
)

// What stands in a create.
const (
	typeCreate   = "m.room.create"
	fieldVersion = "room_version"
	roomVersion  = "11"
)

// draft is the value of an event that has no hashes and signatures yet, of memory of its own. Its fields stand in their canonical order.
func draft(e api.Event) api.Value {
	fields := []api.Field{
		{Name: "auth_events", Value: texts(e.Auth)},
		{Name: "content", Value: copyOf(e.Content)},
		{Name: "depth", Value: number(e.Depth)},
		{Name: "origin_server_ts", Value: number(e.Stamp)},
		{Name: "prev_events", Value: texts(e.Prev)},
		{Name: "room_id", Value: text(e.Room)},
		{Name: "sender", Value: text(e.Sender)},
	}
	if e.HasKey {
		fields = append(fields, api.Field{Name: "state_key", Value: text(e.Key)})
	}
	fields = append(fields, api.Field{Name: "type", Value: text(e.Type)})
	return api.Value{Kind: api.Object, Fields: fields}
}

func number(n int64) api.Value { return api.Value{Kind: api.Int, Int: n} }

func text(s string) api.Value { return api.Value{Kind: api.Text, Text: strings.Clone(s)} }

func texts(l []string) api.Value {
	v := api.Value{Kind: api.List}
	for _, s := range l {
		v.List = append(v.List, text(s))
	}
	return v
}

// copyOf is the same value in memory of its own, what its kind doesn't use too.
func copyOf(v api.Value) api.Value {
	v.Text = strings.Clone(v.Text)
	v.List = slices.Clone(v.List)
	for i, element := range v.List {
		v.List[i] = copyOf(element)
	}
	v.Fields = slices.Clone(v.Fields)
	for i, f := range v.Fields {
		v.Fields[i] = api.Field{Name: strings.Clone(f.Name), Value: copyOf(f.Value)}
	}
	return v
}
