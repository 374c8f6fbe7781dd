package auth

import (
	"slices"

	"covey/api"
	"covey/names"
)

// checkMember is the rule that refuses an event of the type member.
func checkMember(e api.Event, l list) int {
	if !e.HasKey || !names.User(e.Key) {
		return 20
	}
	switch word(e.Content, fieldMembership, "") {
	case wordJoin:
		return checkJoin(e, l)
	case wordInvite:
		return checkInvite(e, l)
	case wordLeave:
		if e.Sender == e.Key {
			return checkOwnLeave(e, l)
		}
		return checkKick(e, l)
	case wordBan:
		return checkBan(e, l)
	}
	return 20
}

// checkJoin is the rule that refuses a join.
func checkJoin(e api.Event, l list) int {
	create, _ := l.find(typeCreate, "")
	membership := l.membership(e.Key)
	switch {
	case e.Sender != e.Key:
		return 21
	case slices.Equal(e.Prev, []string{create.ID}) && l.isCreator(e.Key):
		return allowed
	case membership == wordBan:
		return 22
	case !letsIn(l.joinRule(), membership):
		return 23
	}
	return allowed
}

// letsIn tells whether a join rule lets one of that membership in.
func letsIn(rule, membership string) bool {
	switch rule {
	case wordInvite:
		if membership != wordInvite && membership != wordJoin {
			return false
		}
		fallthrough
	case wordPublic:
		return true
	}
	return false
}

// checkInvite is the rule that refuses an invite.
func checkInvite(e api.Event, l list) int {
	membership := l.membership(e.Key)
	switch {
	case l.membership(e.Sender) != wordJoin:
		return 24
	case membership == wordJoin || membership == wordBan:
		return 25
	case l.level(e.Sender) < l.levelFor(fieldInvite):
		return 26
	}
	return allowed
}

// checkOwnLeave is the rule that refuses that someone leaves.
func checkOwnLeave(e api.Event, l list) int {
	membership := l.membership(e.Key)
	if membership != wordJoin && membership != wordInvite {
		return 27
	}
	return allowed
}

// checkKick is the rule that refuses that someone makes another one leave, be it out of a ban.
func checkKick(e api.Event, l list) int {
	level := l.level(e.Sender)
	switch {
	case l.membership(e.Sender) != wordJoin:
		return 28
	case l.membership(e.Key) == wordBan && level < l.levelFor(fieldBan):
		return 29
	case level < l.levelFor(fieldKick) || l.level(e.Key) >= level:
		return 30
	}
	return allowed
}

// checkBan is the rule that refuses a ban.
func checkBan(e api.Event, l list) int {
	level := l.level(e.Sender)
	switch {
	case l.membership(e.Sender) != wordJoin:
		return 31
	case level < l.levelFor(fieldBan) || l.level(e.Key) >= level:
		return 32
	}
	return allowed
}
