package auth

import "covey/api"

// The fields of a content that rules are about, beside the levels'.
const (
	fieldVersion    = "room_version"
	fieldMembership = "membership"
	fieldRule       = "join_rule"
)

// The memberships, and the join rule that is none of them.
const (
	wordJoin   = "join"
	wordInvite = "invite"
	wordLeave  = "leave"
	wordBan    = "ban"
	wordPublic = "public"
)

// number is a field that is an Int; the zero value is none. So two of them are the same just if ==.
type number struct {
	n  int64
	is bool
}

// or is the number, or another one where there is none.
func (n number) or(other int64) int64 {
	if n.is {
		return n.n
	}
	return other
}

// isAbove tells whether there is a number, and that is above a level.
func (n number) isAbove(level int64) bool {
	return n.is && n.n > level
}

// field is the first field of that name, and whether there is one; only an Object has any.
func field(v api.Value, name string) (api.Value, bool) {
	if v.Kind != api.Object {
		return api.Value{}, false
	}
	for _, f := range v.Fields {
		if f.Name == name {
			return f.Value, true
		}
	}
	return api.Value{}, false
}

// word is the text of a field, or another one where there is none.
func word(v api.Value, name, other string) string {
	f, _ := field(v, name)
	if f.Kind != api.Text {
		return other
	}
	return f.Text
}

// numberOf is the number in a field.
func numberOf(v api.Value, name string) number {
	f, _ := field(v, name)
	return asNumber(f)
}

// asNumber is the number that a value is.
func asNumber(v api.Value) number {
	if v.Kind != api.Int {
		return number{}
	}
	return number{v.Int, true}
}
