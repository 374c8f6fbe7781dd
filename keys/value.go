package keys

import (
	"slices"

	"covey/api"
	"covey/base"
)

func text(s string) api.Value { return api.Value{Kind: api.Text, Text: s} }

func number(n int64) api.Value { return api.Value{Kind: api.Int, Int: n} }

func object(fields ...api.Field) api.Value { return api.Value{Kind: api.Object, Fields: fields} }

// fieldsOf are the fields of an object; of anything else there are none.
func fieldsOf(v api.Value) []api.Field {
	if v.Kind != api.Object {
		return nil
	}
	return v.Fields
}

// field is the value of the first field of that name, null if there is none. It copies nothing, as json.Get would: an event's value that comes in may be too great for that.
func field(v api.Value, name string) api.Value {
	for _, f := range fieldsOf(v) {
		if f.Name == name {
			return f.Value
		}
	}
	return api.Value{}
}

// isObjectOf tells whether a value is an object, and each of its fields such.
func isObjectOf(v api.Value, isSuch func(f api.Field) bool) bool {
	return v.Kind == api.Object && !slices.ContainsFunc(v.Fields, func(f api.Field) bool { return !isSuch(f) })
}

// decoded are the bytes that a text's letters tell; false: there are none, or it is no text.
func decoded(v api.Value) ([]byte, bool) {
	if v.Kind != api.Text {
		return nil, false
	}
	b, err := base.Decode(v.Text, false)
	return b, err == nil
}
