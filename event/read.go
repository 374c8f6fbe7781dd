package event

import (
	"slices"

	"covey/api"
	"covey/json"
	"covey/names"
)

// mostBytes is how many bytes a type and a state's key have at most.
const mostBytes = 255

// reader reads a field of an event.
type reader struct {
	name    string
	wanting bool                   // the field may be wanting
	read    func(v api.Value) bool // false: the field is amiss
}

// read is the event that an object's fields tell, but for its ID and itself; false: it is none.
func read(form api.Value) (api.Event, bool) {
	var e api.Event
	whole := true
search:
	for _, r := range readersInto(&e) {
		value, there := json.Get(form, r.name)
		switch {
		case !there && r.wanting:
		case !there || !r.read(value):
			whole = false
			break search
		}
	}
	return e, whole
}

// readersInto are the readers of an event's fields; what they read goes into e.
func readersInto(e *api.Event) []reader {
	return []reader{
		{name: fieldType, read: textInto(&e.Type, func(s string) bool { return s != "" && len(s) <= mostBytes })},
		{name: fieldRoom, read: textInto(&e.Room, names.Room)},
		{name: fieldSender, read: textInto(&e.Sender, names.User)},
		{name: fieldKey, wanting: true, read: func(v api.Value) bool {
			e.HasKey = true
			return textInto(&e.Key, func(s string) bool { return len(s) <= mostBytes })(v)
		}},
		{name: fieldPrev, read: eventsInto(&e.Prev, api.MaxPrev)},
		{name: fieldAuth, read: eventsInto(&e.Auth, api.MaxAuth)},
		{name: fieldDepth, read: numberInto(&e.Depth)},
		{name: fieldStamp, read: numberInto(&e.Stamp)},
		{name: fieldContent, read: func(v api.Value) bool {
			e.Content = v
			return v.Kind == api.Object
		}},
		{name: fieldHashes, read: func(v api.Value) bool { return field(v, fieldSum).Kind == api.Text }},
		{name: fieldSignatures, read: everyField(names.Server, everyField(names.Key, isText))},
	}
}

// textInto reads a text of a certain kind.
func textInto(to *string, isKind func(s string) bool) func(v api.Value) bool {
	return func(v api.Value) bool {
		*to = v.Text
		return v.Kind == api.Text && isKind(v.Text)
	}
}

// numberInto reads a number from 0 on.
func numberInto(to *int64) func(v api.Value) bool {
	return func(v api.Value) bool {
		*to = v.Int
		return v.Kind == api.Int && v.Int >= 0
	}
}

// eventsInto reads a list of names of events, each once.
func eventsInto(to *[]string, most int) func(v api.Value) bool {
	return func(v api.Value) bool {
		if v.Kind != api.List || len(v.List) > most {
			return false
		}
		for _, element := range v.List {
			if element.Kind != api.Text || !names.Event(element.Text) || slices.Contains(*to, element.Text) {
				return false
			}
			*to = append(*to, element.Text)
		}
		return true
	}
}

// everyField reads an object all of whose fields have a certain kind of name and of value.
func everyField(isName func(s string) bool, isValue func(v api.Value) bool) func(v api.Value) bool {
	return func(v api.Value) bool {
		return v.Kind == api.Object && !slices.ContainsFunc(v.Fields, func(f api.Field) bool { return !isName(f.Name) || !isValue(f.Value) })
	}
}

func isText(v api.Value) bool {
	return v.Kind == api.Text
}
