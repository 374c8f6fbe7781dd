package event

import (
	"slices"
	"strings"

	"covey/api"
	"covey/canon"
	"covey/json"
)

// objectForm is the one form of an object.
func objectForm(v api.Value) (api.Value, error) {
	// Ahead of its kind: that it can't be told is the first thing to be answered.
	form, err := canon.Norm(v)
	if err != nil {
		return api.Value{}, err
	}
	if form.Kind != api.Object {
		return api.Value{}, api.ErrForm
	}
	return form, nil
}

func text(s string) api.Value {
	return api.Value{Kind: api.Text, Text: s}
}

// field is the value of a field, null if there is none: for those who ask for a certain kind of it, which is never null.
func field(v api.Value, name string) api.Value {
	value, _ := json.Get(v, name)
	return value
}

// with is an object in its one form with a field of that value, instead of the one of that name, if it has one; of what is no object, which then has no fields, it is that field alone.
func with(v api.Value, name string, value api.Value) api.Value {
	fields := slices.DeleteFunc(slices.Clone(v.Fields), func(f api.Field) bool { return f.Name == name })
	return api.Value{Kind: api.Object, Fields: append(fields, api.Field{Name: name, Value: value})}
}

// hashedText is what is hashed of an object in its one form.
func hashedText(form api.Value) string {
	return textWithout(form, fieldSignatures, fieldHashes, fieldUnsigned)
}

// signedText is what is signed of an object in its one form; what is laid into it may stand out of order.
func signedText(form api.Value) string {
	return textWithout(redacted(form), fieldSignatures)
}

// textWithout is the text of an object without some of its fields. It is laid together of its fields' texts: each of them can be told, but the whole may be too long for canon, since a content that was one digit is an empty object, redacted.
func textWithout(form api.Value, left ...string) string {
	var told []string
	for _, f := range form.Fields {
		if !slices.Contains(left, f.Name) {
			told = append(told, tell(text(f.Name))+":"+tell(f.Value))
		}
	}
	return "{" + strings.Join(told, ",") + "}"
}

// tell is the text of a part of what can be told.
func tell(v api.Value) string {
	told, _ := canon.Write(v)
	return told
}
