package auth

import (
	"slices"

	"covey/api"
	"covey/names"
)

// The fields of the levels.
const (
	fieldBan           = "ban"
	fieldKick          = "kick"
	fieldRedact        = "redact"
	fieldInvite        = "invite"
	fieldUsersDefault  = "users_default"
	fieldEventsDefault = "events_default"
	fieldStateDefault  = "state_default"
	fieldEvents        = "events"
	fieldUsers         = "users"
)

// singles are the fields that are one number each.
var singles = [7]string{fieldBan, fieldKick, fieldRedact, fieldInvite, fieldUsersDefault, fieldEventsDefault, fieldStateDefault}

// change is a number that is another one in the new levels than in the old; there may be none in one of both.
type change struct {
	name    string
	old, to number
}

// isBeyond tells whether it begins or ends above a level.
func (c change) isBeyond(level int64) bool {
	return c.old.isAbove(level) || c.to.isAbove(level)
}

// checkLevels is the rule that refuses new levels, of a sender who may send that type.
func checkLevels(e api.Event, l list) int {
	if !areLevels(e.Content) {
		return 43
	}
	old, ok := l.levels()
	if !ok {
		return allowed
	}
	level := l.level(e.Sender)
	isBeyond := func(c change) bool { return c.isBeyond(level) }
	// Who is as high as the sender is out of reach, too; but for the sender, who may step down.
	isOutOfReach := func(c change) bool { return c.name != e.Sender && c.old.is && c.old.n >= level }
	isTooHigh := func(c change) bool { return c.to.isAbove(level) }
	users := changesIn(fieldUsers, old, e.Content)
	switch {
	case slices.ContainsFunc(changesOfSingles(old, e.Content), isBeyond):
		return 44
	case slices.ContainsFunc(changesIn(fieldEvents, old, e.Content), isBeyond):
		return 45
	case slices.ContainsFunc(users, isOutOfReach):
		return 46
	case slices.ContainsFunc(users, isTooHigh):
		return 47
	}
	return allowed
}

// areLevels tells whether a content has the form of levels.
func areLevels(content api.Value) bool {
	for _, name := range singles {
		if v, ok := field(content, name); ok && v.Kind != api.Int {
			return false
		}
	}
	events, ok := field(content, fieldEvents)
	if ok && !areNumbers(events) {
		return false
	}
	users, ok := field(content, fieldUsers)
	if ok && !areNumbers(users) {
		return false
	}
	return !ok || !slices.ContainsFunc(users.Fields, func(f api.Field) bool { return !names.User(f.Name) })
}

// areNumbers tells whether a value is an Object of Ints, its names once each.
func areNumbers(v api.Value) bool {
	if v.Kind != api.Object {
		return false
	}
	seen := map[string]struct{}{}
	for _, f := range v.Fields {
		seen[f.Name] = struct{}{}
		if f.Value.Kind != api.Int {
			return false
		}
	}
	return len(seen) == len(v.Fields)
}

// changesOfSingles are what changes of the fields that are one number each.
func changesOfSingles(old, to api.Value) []change {
	var all []change
	for _, name := range singles {
		if c := (change{name, numberOf(old, name), numberOf(to, name)}); c.old != c.to {
			all = append(all, c)
		}
	}
	return all
}

// changesIn are what changes of the numbers in a field, in no order.
func changesIn(object string, old, to api.Value) []change {
	before, after := numbersIn(old, object), numbersIn(to, object)
	var all []change
	for name, n := range before {
		if n != after[name] {
			all = append(all, change{name, n, after[name]})
		}
	}
	for name, n := range after {
		if _, both := before[name]; !both && n.is {
			all = append(all, change{name, number{}, n})
		}
	}
	return all
}

// numbersIn are the numbers in a field, by their names; of a name the first field counts, be it no number.
func numbersIn(v api.Value, object string) map[string]number {
	told := map[string]number{}
	held, _ := field(v, object)
	if held.Kind != api.Object {
		return told
	}
	for _, f := range held.Fields {
		if _, twice := told[f.Name]; !twice {
			told[f.Name] = asNumber(f.Value)
		}
	}
	return told
}
