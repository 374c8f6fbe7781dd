package auth

import (
	"slices"

	"covey/api"
)

// What counts where the levels don't tell.
const (
	levelOfCreator = 100
	levelOfPower   = 50 // for what not everybody may do
)

// list is events that authorise: of each pair the first that stands for it.
type list []api.Event

// isFor tells whether an event stands for a pair.
func isFor(e api.Event, kind, key string) bool {
	return e.HasKey && e.Type == kind && e.Key == key
}

// find is the event for a pair, and whether there is one.
func (l list) find(kind, key string) (api.Event, bool) {
	for _, e := range l {
		if isFor(e, kind, key) {
			return e, true
		}
	}
	return api.Event{}, false
}

// has tells whether an event stands for that type and the empty key.
func (l list) has(kind string) bool {
	_, ok := l.find(kind, "")
	return ok
}

// hasTwo tells whether two events stand for one pair.
func (l list) hasTwo() bool {
	seen := map[api.Entry]struct{}{}
	for _, e := range l {
		if !e.HasKey {
			continue
		}
		pair := api.Entry{Type: e.Type, Key: e.Key}
		if _, twice := seen[pair]; twice {
			return true
		}
		seen[pair] = struct{}{}
	}
	return false
}

// goesBeyond tells whether an event stands for none of these pairs.
func (l list) goesBeyond(pairs []api.Entry) bool {
	return slices.ContainsFunc(l, func(e api.Event) bool {
		return !e.HasKey || !slices.Contains(pairs, api.Entry{Type: e.Type, Key: e.Key})
	})
}

// leaves tells whether an event is of another room.
func (l list) leaves(room string) bool {
	return slices.ContainsFunc(l, func(e api.Event) bool { return e.Room != room })
}

// isCreator tells whether a user is the creator; nobody is without a create.
func (l list) isCreator(user string) bool {
	create, ok := l.find(typeCreate, "")
	return ok && create.Sender == user
}

// membership is a user's membership.
func (l list) membership(user string) string {
	e, _ := l.find(typeMember, user)
	return word(e.Content, fieldMembership, wordLeave)
}

// joinRule is the join rule.
func (l list) joinRule() string {
	e, _ := l.find(typeRules, "")
	return word(e.Content, fieldRule, wordInvite)
}

// levels are the levels, and whether there are any.
func (l list) levels() (api.Value, bool) {
	e, ok := l.find(typeLevels, "")
	return e.Content, ok
}

// level is a user's level.
func (l list) level(user string) int64 {
	levels, ok := l.levels()
	if !ok && l.isCreator(user) {
		return levelOfCreator
	}
	users, _ := field(levels, fieldUsers)
	return numberOf(users, user).or(numberOf(levels, fieldUsersDefault).or(0))
}

// levelFor is the level for ban, kick or invite.
func (l list) levelFor(deed string) int64 {
	levels, _ := l.levels()
	if deed == fieldInvite {
		return numberOf(levels, deed).or(0)
	}
	return numberOf(levels, deed).or(levelOfPower)
}

// levelOfType is the level of an event's type for it.
func (l list) levelOfType(e api.Event) int64 {
	levels, ok := l.levels()
	if !ok {
		return 0
	}
	events, _ := field(levels, fieldEvents)
	if told := numberOf(events, e.Type); told.is {
		return told.n
	}
	if e.HasKey {
		return numberOf(levels, fieldStateDefault).or(levelOfPower)
	}
	return numberOf(levels, fieldEventsDefault).or(0)
}
