package auth_test

import (
	"fmt"
	"math"
	"slices"
	"strings"
	"testing"

	"covey/api"
	"covey/auth"
)

// row is a question to Check, and its answer.
type row struct {
	e    api.Event
	l    []api.Event
	want int
}

// asks holds rows against Check, and Check against the oracle.
func asks(t *testing.T, rows []row) {
	t.Helper()
	for i, x := range rows {
		if got := checks(t, x.e, x.l); got != x.want {
			t.Errorf("%d: Check(%s, %s): %d; not %d", i, brief(x.e), brief(x.l), got, x.want)
		}
	}
}

// joined is a list of a create of al and some users' memberships, joined where nothing else is said.
func joined(more ...any) []api.Event {
	l := []api.Event{create(al)}
	for _, m := range more {
		switch x := m.(type) {
		case string:
			l = append(l, member(x, x, "join"))
		case api.Event:
			l = append(l, x)
		}
	}
	return l
}

// with is an event that is changed.
func with(e api.Event, change func(e *api.Event)) api.Event {
	e = copyOfEvent(e)
	change(&e)
	return e
}

func TestCreate(t *testing.T) {
	c := create(al)
	prev := func(e *api.Event) { e.Prev = []string{"$p"} }
	auths := func(e *api.Event) { e.Auth = []string{"$a"} }
	inRoom := func(name string) api.Event { return with(c, func(e *api.Event) { e.Room = name }) }
	by := func(name string) api.Event { return with(c, func(e *api.Event) { e.Sender = name }) }
	of := func(content api.Value) api.Event { return with(c, func(e *api.Event) { e.Content = content }) }
	long := strings.Repeat("a", 64)
	rows := []row{
		{c, nil, 0},
		{with(c, func(e *api.Event) { e.Prev, e.Auth = []string{}, []string{} }), nil, 0},
		{with(c, prev), nil, 1}, {with(with(with(c, prev), auths), func(e *api.Event) { e.Room, e.Content = "", api.Value{} }), nil, 1},
		{with(c, func(e *api.Event) { e.Prev = []string{""} }), nil, 1},
		{with(c, auths), nil, 2}, {with(with(c, auths), func(e *api.Event) { e.Sender, e.Content = "", api.Value{} }), nil, 2},
		{with(c, func(e *api.Event) { e.Auth = []string{""} }), nil, 2},
		{inRoom(""), nil, 3}, {inRoom("r:x"), nil, 3}, {inRoom("!:x"), nil, 3}, {inRoom("!r"), nil, 3}, {inRoom(al), nil, 3}, {inRoom("!r:y"), nil, 3}, {inRoom("!r:X"), nil, 3}, {inRoom("!r:x.x"), nil, 3},
		{by(""), nil, 3}, {by("al:x"), nil, 3}, {by("@Al:x"), nil, 3}, {by("@al"), nil, 3}, {by(room), nil, 3}, {by("@al:y"), nil, 3},
		{with(c, func(e *api.Event) { e.Room, e.Sender = "r", "al" }), nil, 3},
		{with(c, func(e *api.Event) { e.Room, e.Sender = "", "" }), nil, 3},
		{with(c, func(e *api.Event) { e.Room, e.Content = "!r:y", api.Value{} }), nil, 3},
		{with(c, func(e *api.Event) { e.Room, e.Sender = "!R_-9:"+long, "@a/.=:"+long }), nil, 0},
		{with(c, func(e *api.Event) { e.Room, e.Sender = "!r:"+long+"a", "@a:"+long+"a" }), nil, 3},
		{of(fields()), nil, 4}, {of(fields("room_version", "10")), nil, 4}, {of(fields("room_version", "")), nil, 4}, {of(fields("room_version", 11)), nil, 4}, {of(fields("room_version", "11 ")), nil, 4},
		{of(fields("room_version", "10", "room_version", "11")), nil, 4}, {of(fields("room_version", 11, "room_version", "11")), nil, 4},
		{of(fields("x", 1, "room_version", "11", "room_version", 1)), nil, 0},
		{of(text("11")), nil, 4},
	}
	for _, v := range odd() {
		rows = append(rows, row{of(v), nil, 4}, row{of(fields("room_version", v)), nil, 4})
	}
	asks(t, rows)
	// No list matters.
	for _, x := range rows {
		x.l = []api.Event{c, c, message(bo, messageType), inRoom("!q:y")}
		asks(t, []row{x})
	}
}

// TestNoCreate: what has that type, and not the empty key, is an ordinary event.
func TestNoCreate(t *testing.T) {
	keyless := with(create(al), func(e *api.Event) { e.HasKey = false })
	keyed := with(create(al), func(e *api.Event) { e.Key = "k" })
	ofBo := with(create(al), func(e *api.Event) { e.Key = bo })
	asks(t, []row{
		{keyless, nil, 13}, {keyed, nil, 13},
		{keyless, joined(), 40}, {keyed, joined(), 40},
		{keyless, joined(al), 0}, {keyed, joined(al), 0}, {ofBo, joined(al), 42},
		{keyed, joined(al, levels(al, "users", fields(al, 49))), 41}, {keyed, joined(al, levels(al, "users", fields(al, 50))), 0},
		// Such a one in the list is none either.
		{message(al, messageType), []api.Event{keyed, member(al, al, "join")}, 11},
		{message(al, messageType), []api.Event{keyless, member(al, al, "join")}, 11},
	})
}

func TestLists(t *testing.T) {
	m := message(al, messageType)
	c, j := create(al), member(al, al, "join")
	other := func(e api.Event) api.Event { return with(e, func(e *api.Event) { e.Room = "!q:x" }) }
	keyless := func(e api.Event) api.Event { return with(e, func(e *api.Event) { e.HasKey = false }) }
	asks(t, []row{
		{m, []api.Event{c, j}, 0}, {m, []api.Event{j, c}, 0}, {m, []api.Event{levels(bo), j, c}, 0},
		{m, []api.Event{c, j, c}, 10}, {m, []api.Event{c, j, j}, 10}, {m, []api.Event{c, j, create(bo)}, 10},
		{m, []api.Event{c, j, member(bo, al, "ban")}, 10}, {m, []api.Event{levels(al), c, levels(bo)}, 10},
		// A pair that isn't told, twice; behind one that is amiss.
		{m, []api.Event{c, j, rules("a"), rules("b")}, 10}, {m, []api.Event{keyless(c), other(c), j, j}, 10}, {m, []api.Event{rules("a"), j, j}, 10},
		// Events without a key stand for nothing: no two stand for the same.
		{m, []api.Event{c, j, m, m}, 11}, {m, []api.Event{c, j, keyless(c)}, 11}, {m, []api.Event{keyless(j), c, j}, 11},
		{m, []api.Event{c, j, rules("public")}, 11}, {m, []api.Event{c, j, member(bo, bo, "join")}, 11}, {m, []api.Event{member(al, "", "join"), c, j}, 11},
		{m, []api.Event{c, j, state(createType, "k", al, fields())}, 11}, {m, []api.Event{c, j, state(levelsType, "k", al, fields())}, 11}, {m, []api.Event{c, j, state(messageType, "", al, fields())}, 11},
		{m, []api.Event{c, j, state(levelsType, al, al, fields())}, 11},
		{m, []api.Event{other(c), j, rules("public")}, 11}, {m, []api.Event{rules("public")}, 11}, {m, []api.Event{keyless(other(c))}, 11},
		{m, []api.Event{other(c), j}, 12}, {m, []api.Event{c, other(j)}, 12}, {m, []api.Event{c, j, other(levels(al))}, 12}, {m, []api.Event{other(j)}, 12},
		{other(m), []api.Event{c, j}, 12}, {other(m), []api.Event{other(c), other(j)}, 0},
		{with(m, func(e *api.Event) { e.Room = "" }), []api.Event{c, j}, 12},
		// A room's name needn't be one.
		{with(m, func(e *api.Event) { e.Room = "" }), []api.Event{with(c, func(e *api.Event) { e.Room = "" }), with(j, func(e *api.Event) { e.Room = "" })}, 0},
		{m, nil, 13}, {m, []api.Event{}, 13}, {m, []api.Event{j}, 13}, {m, []api.Event{levels(al), j}, 13},
		{member(al, al, "join"), nil, 13}, {member(al, "bo", "join"), []api.Event{j}, 13}, {levels(al, "ban", "x"), []api.Event{j}, 13},
	})
}

// TestListsOfMembers: which pairs may authorise hangs on the membership that is wanted.
func TestListsOfMembers(t *testing.T) {
	for _, word := range []string{"join", "invite", "leave", "ban", "knock", ""} {
		r := 11
		if word == "join" || word == "invite" {
			r = 0
		}
		for _, e := range []api.Event{member(al, al, word), member(al, bo, word)} {
			if got := checks(t, e, joined(al, rules("public"))); (got == 11) != (r == 11) {
				t.Errorf("%s with a join rule: %d", word, got)
			}
			if got := checks(t, e, joined(al, ca)); got != 11 {
				t.Errorf("%s with a third one's membership: %d", word, got)
			}
		}
		if got := checks(t, member(al, bo, word), joined(al, bo)); got == 11 {
			t.Errorf("%s with the key's membership: %d", word, got)
		}
		if got := checks(t, member(al, al, word), joined(al, bo)); got != 11 {
			t.Errorf("%s of oneself with another one's membership: %d", word, got)
		}
	}
}

// TestListsOfMembersWithoutKey: of one without a key the join rule may be in the list, but nobody's membership but the sender's.
func TestListsOfMembersWithoutKey(t *testing.T) {
	r := rules("public")
	for _, word := range []string{"join", "invite", "leave", "ban", "knock", ""} {
		for _, key := range []string{"", al, bo} {
			e := with(member(al, key, word), func(e *api.Event) { e.HasKey = false })
			withoutCreate, withCreate := 11, 11
			if word == "join" || word == "invite" {
				withoutCreate, withCreate = 13, 20
			}
			asks(t, []row{
				{e, nil, 13}, {e, joined(), 20}, {e, joined(al), 20}, {e, joined(levels(al), al), 20},
				{e, []api.Event{r}, withoutCreate}, {e, joined(r), withCreate}, {e, joined(al, r), withCreate}, {e, joined(r, levels(al), al), withCreate},
				{e, joined(al, bo), 11}, {e, joined(bo, r), 11}, {e, joined(member(al, "", "join")), 11}, {e, joined(state(rulesType, "k", al, fields())), 11},
				{e, joined(r, r), 10}, {e, []api.Event{with(r, func(e *api.Event) { e.HasKey = false }), create(al)}, 11},
				{with(e, func(e *api.Event) { e.Room = "!q:x" }), joined(al), 12},
			})
		}
	}
}

func TestMembersThatAreNone(t *testing.T) {
	of := func(key string) api.Event { return member(al, key, "leave") }
	long := "@" + strings.Repeat("a", 32) + ":" + strings.Repeat("b", 64)
	rows := []row{
		{with(member(al, al, "join"), func(e *api.Event) { e.HasKey = false }), joined(), 20},
		{of(""), joined(al), 20}, {of("bo"), joined(al), 20}, {of("@Bo:x"), joined(al), 20}, {of("@bo"), joined(al), 20}, {of(room), joined(al), 20}, {of("@:x"), joined(al), 20}, {of("@bo:"), joined(al), 20},
		{of(long), joined(al), 0}, {of(long + "b"), joined(al), 20},
		// Ahead of all that is asked of a membership.
		{member(bo, "", "join"), joined(), 20}, {member(bo, "x", "invite"), joined(), 20}, {member(bo, "x", "ban"), joined(), 20},
		{member(al, al, ""), joined(), 20}, {member(al, al, "knock"), joined(al), 20}, {member(al, al, "Join"), joined(al), 20}, {member(al, al, "join "), joined(al), 20},
		{state(memberType, al, al, fields()), joined(al), 20},
		{state(memberType, al, al, fields("membership", "x", "membership", "leave")), joined(al), 20},
		{state(memberType, al, al, fields("membership", "leave", "membership", "x")), joined(al), 0},
		{state(memberType, al, al, fields("x", fields("membership", "leave"))), joined(al), 20},
		{state(memberType, al, al, text("leave")), joined(al), 20},
	}
	for _, v := range odd() {
		rows = append(rows, row{state(memberType, al, al, v), joined(al), 20}, row{state(memberType, al, al, fields("membership", v)), joined(al), 20})
	}
	asks(t, rows)
}

func TestJoin(t *testing.T) {
	c := create(al)
	first := with(member(al, al, "join"), func(e *api.Event) { e.Prev = []string{c.ID} })
	prev := func(e api.Event, ids ...string) api.Event { return with(e, func(e *api.Event) { e.Prev = ids }) }
	rule := func(v api.Value) api.Event { return state(rulesType, "", al, fields("join_rule", v)) }
	asks(t, []row{
		{member(al, bo, "join"), joined(), 21}, {member(al, bo, "join"), joined(al, member(bo, bo, "ban"), rules("public")), 21},
		{prev(member(bo, al, "join"), c.ID), joined(), 21}, {member("", bo, "join"), joined(rules("public")), 21},
		// The creator's first one.
		{first, joined(), 0}, {first, joined(member(al, al, "leave")), 0}, {first, joined(member(bo, al, "ban")), 0}, {first, joined(rules("private")), 0}, {first, joined(levels(al)), 0},
		{prev(first), joined(), 23}, {prev(first, "$x"), joined(), 23}, {prev(first, ""), joined(), 23}, {prev(first, c.ID, c.ID), joined(), 23}, {prev(first, c.ID, "$x"), joined(), 23}, {prev(first, "$x", c.ID), joined(), 23},
		{prev(first, c.ID, "$x"), joined(member(bo, al, "ban")), 22},
		{prev(member(bo, bo, "join"), c.ID), joined(), 23}, {prev(member(bo, bo, "join"), c.ID), joined(rules("public")), 0},
		{prev(first, ""), []api.Event{with(c, func(e *api.Event) { e.ID = "" })}, 0}, {prev(first), []api.Event{with(c, func(e *api.Event) { e.ID = "" })}, 23},
		// Who sends a create is the creator, whoever else it names.
		{prev(member(bo, bo, "join"), c.ID), []api.Event{with(c, func(e *api.Event) { e.Content = fields("creator", bo) })}, 23},
		{prev(member(bo, bo, "join"), c.ID), []api.Event{create(bo)}, 0},
		// A ban goes ahead of every join rule.
		{member(bo, bo, "join"), joined(member(al, bo, "ban")), 22}, {member(bo, bo, "join"), joined(member(al, bo, "ban"), rules("public")), 22}, {member(bo, bo, "join"), joined(member(al, bo, "ban"), rules("private")), 22},
		{member(bo, bo, "join"), joined(rules("public")), 0}, {member(bo, bo, "join"), joined(rules("public"), member(al, bo, "leave")), 0}, {member(bo, bo, "join"), joined(rules("public"), member(al, bo, "x")), 0},
		{member(bo, bo, "join"), joined(rules("public"), bo), 0}, {member(bo, bo, "join"), joined(rules("public"), member(al, bo, "invite")), 0},
		{member(bo, bo, "join"), joined(rules("invite")), 23}, {member(bo, bo, "join"), joined(rules("invite"), member(al, bo, "leave")), 23}, {member(bo, bo, "join"), joined(rules("invite"), member(al, bo, "knock")), 23},
		{member(bo, bo, "join"), joined(rules("invite"), bo), 0}, {member(bo, bo, "join"), joined(rules("invite"), member(al, bo, "invite")), 0},
		// Without a rule, or where it is no word, it is invite.
		{member(bo, bo, "join"), joined(bo), 0}, {member(bo, bo, "join"), joined(member(al, bo, "invite")), 0}, {member(bo, bo, "join"), joined(), 23},
		{member(bo, bo, "join"), joined(bo, state(rulesType, "", al, fields())), 0}, {member(bo, bo, "join"), joined(bo, rule(number(1))), 0}, {member(bo, bo, "join"), joined(bo, state(rulesType, "", al, text("public"))), 0},
		{member(bo, bo, "join"), joined(state(rulesType, "", al, fields("join_rule", 1, "join_rule", "public"))), 23},
		{member(bo, bo, "join"), joined(state(rulesType, "", al, fields("join_rule", "public", "join_rule", 1))), 0},
		// Any other rule lets nobody in: the empty one, too.
		{member(bo, bo, "join"), joined(bo, rules("private")), 23}, {member(bo, bo, "join"), joined(member(al, bo, "invite"), rules("knock")), 23}, {member(bo, bo, "join"), joined(bo, rules("")), 23}, {member(bo, bo, "join"), joined(bo, rules("Public")), 23}, {member(bo, bo, "join"), joined(bo, rules("join")), 23},
		// Levels don't matter.
		{member(bo, bo, "join"), joined(rules("public"), levels(al, "users_default", -100, "state_default", 100, "events", fields(memberType, 100))), 0},
	})
	for _, v := range odd() {
		asks(t, []row{
			{member(bo, bo, "join"), joined(bo, rule(v)), 0}, {member(bo, bo, "join"), joined(rule(v)), 23},
			{member(bo, bo, "join"), joined(state(rulesType, "", al, v)), 23},
			{member(bo, bo, "join"), joined(state(memberType, bo, bo, v)), 23}, {member(bo, bo, "join"), joined(state(memberType, bo, bo, fields("membership", v)), rules("public")), 0},
		})
	}
}

func TestInvite(t *testing.T) {
	i := member(al, bo, "invite")
	asks(t, []row{
		{i, joined(al), 0}, {i, joined(al, member(bo, bo, "leave")), 0}, {i, joined(al, member(al, bo, "invite")), 0}, {i, joined(al, rules("private")), 0},
		{i, joined(), 24}, {i, joined(member(bo, al, "invite")), 24}, {i, joined(member(al, al, "leave")), 24}, {i, joined(member(bo, al, "ban")), 24}, {i, joined(member(bo, al, "x")), 24},
		{i, joined(bo), 24}, {i, joined(member(al, bo, "ban"), levels(al, "invite", 1)), 24}, {member(al, al, "invite"), joined(), 24},
		{i, joined(al, bo), 25}, {i, joined(al, member(al, bo, "ban")), 25}, {i, joined(al, bo, levels(al, "invite", 1)), 25}, {member(al, al, "invite"), joined(al), 25},
		{i, joined(al, levels(al, "invite", 1)), 26}, {i, joined(al, levels(al, "invite", 7, "users", fields(al, 6))), 26}, {i, joined(al, levels(al, "users", fields(al, -1))), 26}, {i, joined(al, levels(al, "users_default", -1)), 26},
		{i, joined(al, levels(al, "invite", "0", "users", fields(al, -1))), 26},
		{i, joined(al, levels(al, "invite", 7, "users", fields(al, 7))), 0}, {i, joined(al, levels(al)), 0}, {i, joined(al, levels(al, "invite", -1, "users", fields(al, -1))), 0}, {i, joined(al, levels(al, "invite", "9")), 0},
		// The key's level doesn't matter, nor those of the type.
		{i, joined(al, levels(al, "users", fields(bo, 100), "state_default", 100, "events", fields(memberType, 100), "ban", 100, "kick", 100)), 0},
	})
	// Without levels everybody who is joined may.
	asks(t, []row{{member(bo, ca, "invite"), joined(bo), 0}, {member(bo, ca, "invite"), joined(bo, levels(al)), 0}})
}

func TestLeave(t *testing.T) {
	own := member(bo, bo, "leave")
	asks(t, []row{
		{own, joined(bo), 0}, {own, joined(member(al, bo, "invite")), 0}, {own, joined(bo, levels(al, "users_default", -100, "kick", 100)), 0},
		{own, joined(), 27}, {own, joined(member(al, bo, "leave")), 27}, {own, joined(member(al, bo, "ban")), 27}, {own, joined(member(al, bo, "knock")), 27}, {own, joined(state(memberType, bo, bo, fields())), 27},
		{own, joined(member(al, bo, "ban"), levels(al, "users", fields(bo, 100))), 27},
		{member(al, al, "leave"), joined(), 27},
	})
	kick := member(al, bo, "leave")
	asks(t, []row{
		{kick, joined(al), 0}, {kick, joined(al, bo), 0}, {kick, joined(al, member(al, bo, "invite")), 0}, {kick, joined(al, member(al, bo, "ban")), 0},
		{kick, joined(), 28}, {kick, joined(bo), 28}, {kick, joined(member(bo, al, "invite"), bo), 28}, {kick, joined(member(bo, al, "ban"), member(al, bo, "ban"), levels(al)), 28},
		{kick, joined(al, member(al, bo, "ban"), levels(al, "users", fields(al, 49))), 29}, {kick, joined(al, member(al, bo, "ban"), levels(al, "ban", 7, "kick", 0, "users", fields(al, 6))), 29}, {kick, joined(al, member(al, bo, "ban"), levels(al)), 29},
		{kick, joined(al, member(al, bo, "ban"), levels(al, "ban", 7, "kick", 7, "users", fields(al, 6, bo, 6))), 29},
		{kick, joined(al, member(al, bo, "ban"), levels(al, "ban", 7, "kick", 7, "users", fields(al, 7))), 0}, {kick, joined(al, member(al, bo, "ban"), levels(al, "ban", 7, "kick", 8, "users", fields(al, 7))), 30},
		{kick, joined(al, member(al, bo, "ban"), levels(al, "users", fields(al, 50))), 0}, {kick, joined(al, member(al, bo, "ban"), levels(al, "users", fields(al, 50, bo, 50))), 30},
		// The level for ban matters of a ban alone.
		{kick, joined(al, bo, levels(al, "ban", 7, "kick", 0, "users", fields(al, 6))), 0}, {kick, joined(al, levels(al, "ban", 7, "kick", 0, "users", fields(al, 6))), 0},
		{kick, joined(al, bo, levels(al, "users", fields(al, 49))), 30}, {kick, joined(al, bo, levels(al, "users", fields(al, 50))), 0}, {kick, joined(al, bo, levels(al, "kick", 7, "users", fields(al, 6))), 30}, {kick, joined(al, bo, levels(al, "kick", 7, "users", fields(al, 7))), 0},
		{kick, joined(al, bo, levels(al, "kick", "7", "users", fields(al, 49))), 30}, {kick, joined(al, bo, levels(al, "kick", "7", "users", fields(al, 50))), 0},
		{kick, joined(al, bo, levels(al, "users", fields(al, 60, bo, 59))), 0}, {kick, joined(al, bo, levels(al, "users", fields(al, 60, bo, 60))), 30}, {kick, joined(al, bo, levels(al, "users", fields(al, 60, bo, 61))), 30},
		{kick, joined(al, bo, levels(al, "users", fields(al, 60), "users_default", 60)), 30}, {kick, joined(al, bo, levels(al, "users", fields(al, 60), "users_default", 59)), 0},
		{kick, joined(al, bo, levels(al, "kick", 0)), 30}, {kick, joined(al, bo, levels(al, "kick", 0, "users", fields(bo, -1))), 0},
		// Without levels the creator may, and nobody else.
		{member(bo, al, "leave"), joined(al, bo), 30}, {member(bo, ca, "leave"), joined(bo), 30}, {member(bo, ca, "leave"), joined(bo, member(al, ca, "ban")), 29},
	})
}

func TestBan(t *testing.T) {
	ban := member(al, bo, "ban")
	rows := []row{
		{ban, joined(), 31}, {ban, joined(bo), 31}, {ban, joined(member(bo, al, "invite")), 31}, {ban, joined(member(bo, al, "leave"), levels(al)), 31}, {member(al, al, "ban"), joined(), 31},
		{ban, joined(al, levels(al, "users", fields(al, 49))), 32}, {ban, joined(al, levels(al, "users", fields(al, 50))), 0}, {ban, joined(al, levels(al, "ban", 7, "users", fields(al, 6))), 32}, {ban, joined(al, levels(al, "ban", 7, "users", fields(al, 7))), 0},
		{ban, joined(al, levels(al, "ban", "7", "users", fields(al, 49))), 32}, {ban, joined(al, levels(al, "ban", 7, "kick", 100, "users", fields(al, 7))), 0},
		{ban, joined(al, levels(al, "users", fields(al, 60, bo, 59))), 0}, {ban, joined(al, levels(al, "users", fields(al, 60, bo, 60))), 32}, {ban, joined(al, levels(al, "users", fields(al, 60, bo, 61))), 32}, {ban, joined(al, levels(al, "users", fields(al, 60), "users_default", 60)), 32},
		{ban, joined(al, levels(al)), 32}, {member(al, al, "ban"), joined(al), 32}, {member(al, al, "ban"), joined(al, levels(al, "ban", 0)), 32},
		{member(bo, al, "ban"), joined(al, bo), 32}, {member(bo, ca, "ban"), joined(bo), 32},
	}
	for _, word := range []string{"join", "invite", "leave", "ban", "knock"} {
		rows = append(rows, row{ban, joined(al, member(al, bo, word)), 0})
	}
	asks(t, rows)
}

func TestOther(t *testing.T) {
	m, s := message(al, messageType), state(messageType, "", al, fields())
	key := func(key string) api.Event { return state(messageType, key, al, fields()) }
	asks(t, []row{
		{m, joined(), 40}, {s, joined(), 40}, {m, joined(member(bo, al, "invite")), 40}, {m, joined(member(al, al, "leave")), 40}, {m, joined(member(bo, al, "ban")), 40}, {m, joined(state(memberType, al, al, fields())), 40}, {m, joined(state(memberType, al, al, fields("membership", 1, "membership", "join"))), 40},
		{key(bo), joined(levels(al, "users_default", -1)), 40}, {levels(al, "ban", "x"), joined(), 40}, {rules("public"), joined(), 40},
		// Without levels everybody may all, who is joined.
		{m, joined(al), 0}, {s, joined(al), 0}, {message(bo, messageType), joined(bo), 0}, {state(rulesType, "", bo, fields()), joined(bo), 0}, {levels(bo, "users", fields(bo, 100)), joined(bo), 0},
		// The defaults.
		{m, joined(al, levels(al)), 0}, {m, joined(al, levels(al, "users_default", -1)), 41}, {s, joined(al, levels(al, "users_default", 49)), 41}, {s, joined(al, levels(al, "users_default", 50)), 0},
		{m, joined(al, levels(al, "events_default", 5, "users_default", 4)), 41}, {m, joined(al, levels(al, "events_default", 5, "users_default", 5)), 0}, {m, joined(al, levels(al, "events_default", "5")), 0},
		{s, joined(al, levels(al, "state_default", 5, "users_default", 4)), 41}, {s, joined(al, levels(al, "state_default", 5, "users_default", 5)), 0}, {s, joined(al, levels(al, "state_default", "5", "users_default", 49)), 41},
		{m, joined(al, levels(al, "state_default", 5)), 0}, {s, joined(al, levels(al, "events_default", 0)), 41},
		// By their type.
		{m, joined(al, levels(al, "events", fields(messageType, 1))), 41}, {m, joined(al, levels(al, "events", fields(messageType, 1), "users", fields(al, 1))), 0}, {m, joined(al, levels(al, "events", fields("m.room.messag", 1))), 0},
		{s, joined(al, levels(al, "events", fields(messageType, 0))), 0}, {s, joined(al, levels(al, "events", fields(messageType, 1))), 41}, {m, joined(al, levels(al, "events", fields(messageType, -1), "events_default", 9)), 0},
		{m, joined(al, levels(al, "events", fields(messageType, 0, messageType, 1))), 0}, {m, joined(al, levels(al, "events", fields(messageType, "0", messageType, 1), "events_default", 0)), 0}, {s, joined(al, levels(al, "events", fields(messageType, "0"))), 41},
		{m, joined(al, levels(al, "events", fields(messageType, 0), "events", fields(messageType, 1))), 0}, {m, joined(al, levels(al, "events", 5, "events", fields(messageType, 1))), 0},
		{levels(al, "ban", "x"), joined(al, levels(al)), 41}, {key(bo), joined(al, levels(al)), 41},
		{message(al, ""), joined(al, levels(al, "events", fields("", 1))), 41},
		// Keys.
		{key(al), joined(al), 0}, {key(bo), joined(al), 42}, {key("@"), joined(al), 42}, {key("@al:x "), joined(al), 42}, {key(" @bo:x"), joined(al), 0}, {key("bo"), joined(al), 0}, {key("!@"), joined(al), 0},
		{state(levelsType, bo, al, fields("ban", "x")), joined(al), 42}, {state(rulesType, bo, al, fields()), joined(al), 42},
		{with(key(bo), func(e *api.Event) { e.HasKey = false }), joined(al), 0},
	})
}

// TestLevelsThatAreNone: a power_levels that isn't formed so.
func TestLevelsThatAreNone(t *testing.T) {
	l, by := joined(al), joined(al, levels(al, "users", fields(al, 100)))
	twice := func(rows []row) []row {
		for _, x := range slices.Clone(rows) {
			rows = append(rows, row{x.e, by, x.want})
		}
		return rows
	}
	a := fields(al, 100)
	rows := []row{
		{levels(al, "users", a), l, 0}, {levels(al, "users", a, "x", "y"), l, 0},
		{levels(al, "users", a, "events", fields()), l, 0}, {levels(al, "users", a, "events", fields("a", 1, "A", 1, "", 2)), l, 0},
		{levels(al, "users", a, "events", fields("a", 1, "a", 1)), l, 43}, {levels(al, "users", a, "events", fields("a", 1, "b", 2, "a", 3)), l, 43}, {levels(al, "users", a, "events", fields("", 1, "", 1)), l, 43},
		{levels(al, "users", fields(al, 100, al, 100)), l, 43}, {levels(al, "users", fields(bo, 1, al, 100, bo, 2)), l, 43},
		{levels(al, "users", fields(al, 100, "bo", 1)), l, 43}, {levels(al, "users", fields(al, 100, "", 1)), l, 43}, {levels(al, "users", fields(al, 100, room, 1)), l, 43}, {levels(al, "users", fields(al, 100, "@Bo:x", 1)), l, 43}, {levels(al, "users", fields("@bo:x ", 1, al, 100)), l, 43},
		{levels(al, "users", fields(al, 100, bo, "1")), l, 43}, {levels(al, "users", fields(bo, fields(), al, 100)), l, 43},
		// Of several fields of a name the first counts.
		{levels(al, "users", a, "users", 5, "ban", 1, "ban", "x", "events", fields(), "events", 1), l, 0}, {levels(al, "users", 5, "users", a), l, 43},
	}
	for _, name := range seven {
		rows = append(rows, row{levels(al, "users", a, name, 7), l, 0}, row{levels(al, "users", a, name, "7"), l, 43}, row{levels(al, "users", a, name, fields()), l, 43}, row{levels(al, "users", a, name, "x", name, 7), l, 43})
		for _, v := range odd() {
			rows = append(rows, row{levels(al, "users", a, name, v), l, 43})
		}
	}
	for _, v := range append(odd(), number(1), text("x")) {
		rows = append(rows, row{levels(al, "users", a, "events", v), l, 43}, row{levels(al, "events", v), l, 43}, row{levels(al, "users", v), l, 43})
		if v.Kind != api.Int {
			rows = append(rows, row{levels(al, "users", a, "events", fields("a", 1, "b", v)), l, 43}, row{levels(al, "users", fields(al, 100, bo, v)), l, 43})
		}
	}
	asks(t, twice(rows))
	// A content that is no Object has no fields: it is formed so, but takes all away.
	for _, v := range append(odd(), number(1), text("x")) {
		asks(t, []row{{state(levelsType, "", al, v), l, 0}, {state(levelsType, "", al, v), by, 0}, {state(levelsType, "", al, v), joined(al, levels(al, "users", fields(al, 100, bo, 100))), 46}})
	}
	// What isn't a power_levels may be formed in any way.
	amiss := levels(al, "ban", "x")
	asks(t, []row{{with(amiss, func(e *api.Event) { e.HasKey = false }), by, 0}, {with(amiss, func(e *api.Event) { e.Key = "k" }), by, 0}, {with(amiss, func(e *api.Event) { e.Key = al }), by, 0}})
}

// of50 is the room's levels: al has 50, and may send all types.
func of50(more ...any) []api.Event {
	return joined(al, levels(bo, append([]any{"events", fields(levelsType, 50)}, more...)...))
}

// TestSingles: none of seven numbers moves from or to what is above the sender's level.
func TestSingles(t *testing.T) {
	base := []any{"users", fields(al, 50), "events", fields(levelsType, 50)}
	to := func(more ...any) api.Event { return levels(al, append(slices.Clone(base), more...)...) }
	from := func(more ...any) []api.Event { return joined(al, levels(bo, append(slices.Clone(base), more...)...)) }
	for _, name := range seven {
		asks(t, []row{
			{to(), from(), 0}, {to(name, 50), from(name, 50), 0}, {to(name, 51), from(name, 51), 0}, {to(name, 51, name, 9), from(name, 51, name, 8), 0},
			{to(name, 50), from(), 0}, {to(name, 51), from(), 44}, {to(name, 50), from(name, 3), 0}, {to(name, 51), from(name, 3), 44}, {to(name, 51), from(name, 50), 44},
			{to(), from(name, 50), 0}, {to(), from(name, 51), 44}, {to(name, 3), from(name, 50), 0}, {to(name, 3), from(name, 51), 44}, {to(name, 52), from(name, 51), 44}, {to(name, 50), from(name, 51), 44},
			{to(name, -1), from(name, 0), 0}, {to(name, 0), from(), 0}, {to(), from(name, 0), 0},
			// In the old one what is no number counts as none.
			{to(name, 50), from(name, "x"), 0}, {to(name, 51), from(name, "51"), 44}, {to(), from(name, "51"), 0}, {to(name, 51), from(name, "51", name, 51), 44}, {to(), from(name, 51, name, "x"), 44},
			{to(name, number(math.MaxInt64)), from(), 44}, {to(name, number(math.MinInt64)), from(), 0}, {to(), from(name, number(math.MaxInt64)), 44}, {to(name, number(math.MinInt64)), from(name, number(math.MaxInt64)), 44},
		})
		for _, v := range odd() {
			asks(t, []row{{to(), from(name, v), 0}, {to(name, 50), from(name, v), 0}, {to(name, 51), from(name, v), 44}})
		}
	}
	asks(t, []row{
		// A field that isn't one of the seven may be any.
		{to("else", 51), from(), 0}, {to("Ban", 51), from("Kick", 51), 0},
		// Ahead of the rules behind it.
		{levels(al, "ban", 51, "events", fields("a", 51), "users", fields(bo, 51)), from(), 44},
		// The sender's level is told by the old ones.
		{levels(al, "users", fields(al, 100), "ban", 60, "events", fields(levelsType, 50)), from(), 44},
		{to("users_default", 60), joined(al, levels(bo, "users_default", 50)), 44}, {levels(al, "users_default", 40), joined(al, levels(bo, "users_default", 50)), 0},
	})
}

// TestEvents: the same of the numbers in events.
func TestEvents(t *testing.T) {
	to := func(more ...any) api.Event {
		return levels(al, "users", fields(al, 50), "events", fields(append([]any{levelsType, 50}, more...)...))
	}
	from := func(more ...any) []api.Event {
		return joined(al, levels(bo, "users", fields(al, 50), "events", fields(append([]any{levelsType, 50}, more...)...)))
	}
	users := fields(al, 50)
	asks(t, []row{
		{to(), from(), 0}, {to("a", 51), from("a", 51), 0}, {to("b", 1, "a", 51), from("a", 51, "b", 1), 0},
		{to("a", 50), from(), 0}, {to("a", 51), from(), 45}, {to("a", 50), from("a", 3), 0}, {to("a", 51), from("a", 3), 45},
		{to(), from("a", 50), 0}, {to(), from("a", 51), 45}, {to("a", 3), from("a", 50), 0}, {to("a", 3), from("a", 51), 45}, {to("a", 52), from("a", 51), 45},
		{to("b", 51), from("a", 51), 45}, {to("a", 1, "b", 2, "c", 51), from("c", 50, "b", 1), 45}, {to("", 51), from(), 45}, {to(), from("", 51), 45}, {to("", 0), from(), 0},
		// In the old ones of a name the first counts; what is no number is none.
		{to("a", 51), from("a", 51, "a", 1), 0}, {to("a", 1), from("a", 1, "a", 51), 0}, {to("a", 51), from("a", "x", "a", 51), 45}, {to(), from("a", "x", "a", 51), 0}, {to("a", 50), from("a", "x"), 0}, {to(), from("a", "51"), 0},
		// Without the field, or where it is no Object, there are none.
		{levels(al, "users", users), from("a", 51), 45}, {levels(al, "users", users), from("a", 50), 0},
		{to("a", 51), joined(al, levels(bo, "users", users)), 45}, {to("a", 50), joined(al, levels(bo, "users", users)), 0}, {to("a", 51), joined(al, levels(bo, "users", users, "events", "x", "events", fields("a", 51))), 45}, {to("a", 50), joined(al, levels(bo, "users", users, "events", number(51))), 0},
		{levels(al, "users", users, "events", fields("a", 51)), joined(al, state(levelsType, "", bo, fields("users", users, "events", api.Value{Kind: api.List, Fields: fields("a", 51).Fields}))), 45},
		// Ahead of the rules behind it; the names of the seven are no others there.
		{levels(al, "users", fields(bo, 51), "events", fields("a", 51)), of50("users", fields(al, 50, bo, 50)), 45}, {to("ban", 50), from(), 0}, {to("ban", 51), from(), 45},
	})
}

// TestUsers: none who is as high as the sender is moved, and none is raised above the sender.
func TestUsers(t *testing.T) {
	to := func(more ...any) api.Event {
		return levels(al, "users", fields(more...), "events", fields(levelsType, 50))
	}
	from := func(more ...any) []api.Event { return of50("users", fields(append([]any{al, 50}, more...)...)) }
	asks(t, []row{
		{to(al, 50), from(), 0}, {to(al, 50, bo, 51), from(bo, 51), 0}, {to(bo, 51, al, 50), from(bo, 51), 0},
		{to(al, 50), from(bo, 49), 0}, {to(al, 50), from(bo, 50), 46}, {to(al, 50), from(bo, 51), 46},
		{to(al, 50, bo, 3), from(bo, 49), 0}, {to(al, 50, bo, 3), from(bo, 50), 46}, {to(al, 50, bo, 3), from(bo, 51), 46}, {to(al, 50, bo, 60), from(bo, 50), 46}, {to(al, 50, bo, 50), from(bo, 49), 0},
		{to(al, 50, bo, 51), from(bo, 50), 46}, {to(al, 50, bo, 51, ca, 1), from(bo, 49, ca, 50), 46}, {to(al, 50, ca, 50), from(bo, 1, ca, 50), 0},
		{to(al, 50, bo, 51), from(bo, 49), 47}, {to(al, 50, bo, 50), from(), 0}, {to(al, 50, bo, 51), from(), 47}, {to(al, 50, bo, 1, ca, 51), from(bo, 2, ca, 3), 47}, {to(al, 50, bo, -1), from(), 0},
		// The sender may step down, or go, but not up.
		{to(al, 49), from(), 0}, {to(), from(), 0}, {to(al, -1), from(), 0}, {to(al, 51), from(), 47},
		{to(al, 51), of50("users_default", 50), 47}, {levels(al, "users_default", 50, "users", fields(al, 51), "events", fields(levelsType, 50)), of50("users_default", 50), 47}, {levels(al, "users_default", 50, "users", fields(al, 50), "events", fields(levelsType, 50)), of50("users_default", 50), 0},
		// In the old ones of a name the first counts; what is no number is none.
		{to(al, 50, bo, 60), from(bo, 60, bo, 1), 0}, {to(al, 50, bo, 1), from(bo, 1, bo, 60), 0}, {to(al, 50), from(bo, "60", bo, 60), 0}, {to(al, 50, bo, 50), from(bo, "60"), 0}, {to(al, 50, bo, 51), from(bo, "51"), 47}, {to(al, 50, "@di:x", 50), from("di", 70), 46}, {to(al, 50), from("", 50), 46},
		{to(al, 50, bo, number(math.MaxInt64)), from(), 47}, {to(al, 50, bo, number(math.MinInt64)), from(), 0}, {to(al, 50), from(bo, number(math.MinInt64)), 0}, {to(al, 50), from(bo, number(math.MaxInt64)), 46},
	})
	// Where the old ones name no users, or the field is no Object, all are new.
	for _, v := range append(odd(), number(1), text("x")) {
		by := joined(al, levels(bo, "users", v, "state_default", 0, "users_default", 50))
		e := func(n int) api.Event {
			return levels(al, "users", fields(bo, n), "state_default", 0, "users_default", 50)
		}
		asks(t, []row{{e(50), by, 0}, {e(51), by, 47}})
	}
	// The document's words: a number in users that goes is held against its old one alone, be users_default above the sender's level.
	asks(t, []row{{levels(al, "users_default", 80, "users", fields(al, 50), "events", fields(levelsType, 50)), of50("users_default", 80, "users", fields(al, 50, bo, 10)), 0}})
}

// TestEmptySender: an empty sender is nobody's name, but its membership may be told.
func TestEmptySender(t *testing.T) {
	asks(t, []row{
		{message("", messageType), joined(), 40}, {message("", messageType), joined(member(al, "", "join")), 0},
		{member("", "", "join"), joined(rules("public")), 20}, {member("", bo, "leave"), joined(), 28},
	})
}

// TestMany: long lists and contents; the oracle would be long about them.
func TestMany(t *testing.T) {
	var events, users []any
	for i := range 20000 {
		events = append(events, fmt.Sprint("t", i), i%101)
		users = append(users, fmt.Sprintf("@u%d:x", i), i%99)
	}
	users = append(users, al, 100)
	l := joined(al, levels(al, "events", fields(events...), "users", fields(users...)))
	change := func(some []any, at int, to int) api.Value {
		some = slices.Clone(some)
		some[at] = to
		return fields(some...)
	}
	last := len(users) - 3
	for i, x := range []row{
		{levels(al, "users", fields(users...), "events", fields(events...)), l, 0},
		{levels(al, "users", fields(users...), "events", change(events, len(events)-1, 101)), l, 45},
		{levels(al, "users", change(users, last, 100), "events", fields(events...)), l, 0},
		{levels(al, "users", change(users, last, 101), "events", fields(events...)), l, 47},
		{levels(al, "users", fields(append(slices.Clone(users), al, 100)...), "events", fields(events...)), l, 43},
	} {
		if got := auth.Check(x.e, x.l); got != x.want {
			t.Errorf("%d: %d; not %d", i, got, x.want)
		}
	}
	var list []api.Event
	for i := range 20000 {
		list = append(list, state(memberType, fmt.Sprintf("@u%d:x", i), al, fields("membership", "join")))
	}
	asks(t, []row{{message(al, messageType), list, 11}, {message(al, messageType), append(list, list[0]), 10}})
}
