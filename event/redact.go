package event

import (
	"slices"

	"covey/api"
	"covey/json"
)

// The fields of an event, and what is asked of some of them.
const (
	fieldAuth       = "auth_events"
	fieldContent    = "content"
	fieldDepth      = "depth"
	fieldHashes     = "hashes"
	fieldStamp      = "origin_server_ts"
	fieldPrev       = "prev_events"
	fieldRoom       = "room_id"
	fieldSender     = "sender"
	fieldSignatures = "signatures"
	fieldKey        = "state_key"
	fieldType       = "type"

	fieldSum      = "sha256"   // of hashes
	fieldUnsigned = "unsigned" // beside them: neither hashed nor signed

	nameMark = "$" // what an event's name begins with
)

// The types of which something of the content stays.
const (
	typeCreate = "m.room.create"
	typeMember = "m.room.member"
	typeRules  = "m.room.join_rules"
	typePower  = "m.room.power_levels"
)

// keptFields are those that stay, by rising name: so an object is in its one form that has them in this order.
func keptFields() []string {
	return []string{fieldAuth, fieldContent, fieldDepth, fieldHashes, fieldStamp, fieldPrev, fieldRoom, fieldSender, fieldSignatures, fieldKey, fieldType}
}

// redacted is an object redacted, in memory of its own, in its one form if the object is; its fields are in order anyhow.
func redacted(form api.Value) api.Value {
	kept := api.Value{Kind: api.Object}
	for _, name := range keptFields() {
		value, there := json.Get(form, name)
		if !there {
			continue
		}
		if name == fieldContent {
			value = keptContent(value, field(form, fieldType))
		}
		kept.Fields = append(kept.Fields, api.Field{Name: name, Value: value})
	}
	return kept
}

// keptContent is what stays of a content in an object of that type.
func keptContent(content, ofType api.Value) api.Value {
	if content.Kind != api.Object {
		return api.Value{Kind: api.Object}
	}
	stays := staying(ofType)
	content.Fields = slices.DeleteFunc(content.Fields, func(f api.Field) bool { return !stays(f.Name) })
	return content
}

// staying tells of the fields of a content whether they stay, by the object's type.
func staying(ofType api.Value) func(name string) bool {
	if ofType.Kind != api.Text {
		return func(string) bool { return false }
	}
	if ofType.Text == typeCreate {
		return func(string) bool { return true }
	}
	kept := keptOfContent()
	return func(name string) bool {
		_, stays := kept[place{ofType.Text, name}]
		return stays
	}
}

// place is a field of the content of a type.
type place struct{ ofType, name string }

// keptOfContent are the fields that stay of contents, but those of which all stay.
func keptOfContent() map[place]struct{} {
	return map[place]struct{}{
		{typeMember, "membership"}:    {},
		{typeRules, "join_rule"}:      {},
		{typePower, "ban"}:            {},
		{typePower, "events"}:         {},
		{typePower, "events_default"}: {},
		{typePower, "invite"}:         {},
		{typePower, "kick"}:           {},
		{typePower, "redact"}:         {},
		{typePower, "state_default"}:  {},
		{typePower, "users"}:          {},
		{typePower, "users_default"}:  {},
	}
}
