package auth_test

import (
	"fmt"
	"math"
	"reflect"
	"slices"
	"strings"
	"testing"
	"unsafe"

	"covey/api"
	"covey/auth"
)

const (
	createType  = "m.room.create"
	memberType  = "m.room.member"
	levelsType  = "m.room.power_levels"
	rulesType   = "m.room.join_rules"
	messageType = "m.room.message"
)

// Some users, and the room of most tests.
const (
	al, bo, ca = "@al:x", "@bo:x", "@ca:y"
	room       = "!r:x"
)

func number(n int64) api.Value { return api.Value{Kind: api.Int, Int: n} }
func text(s string) api.Value  { return api.Value{Kind: api.Text, Text: s} }

// fields is an object of names and values, by turns; a value may also be an int or a string.
func fields(l ...any) api.Value {
	v := api.Value{Kind: api.Object}
	for i := 0; i < len(l); i += 2 {
		f := api.Field{Name: l[i].(string)}
		switch w := l[i+1].(type) {
		case api.Value:
			f.Value = w
		case int:
			f.Value = number(int64(w))
		case string:
			f.Value = text(w)
		}
		v.Fields = append(v.Fields, f)
	}
	return v
}

// odd are values that are neither numbers nor words nor objects, with what their kinds don't use.
func odd() []api.Value {
	all := []api.Value{{}, {Kind: api.Bool, Bool: true}, {Kind: api.List, List: []api.Value{number(1), text("join")}}}
	for _, kind := range []int{api.Null, api.Bool, api.List, -1, 6, math.MaxInt, math.MinInt} {
		v := fields("membership", "join", "users", fields(al, 100), "room_version", "11", "join_rule", "public", "users_default", 100)
		v.Kind, v.Int, v.Text = kind, 100, "join"
		all = append(all, v)
	}
	return all
}

// state is a state event; its ID is of its type and key.
func state(kind, key, sender string, content api.Value) api.Event {
	return api.Event{ID: "$" + kind + key, Type: kind, Room: room, Sender: sender, HasKey: true, Key: key, Prev: []string{"$p", "$q"}, Auth: []string{"$a"}, Depth: 3, Stamp: 4, Content: content}
}

func create(sender string) api.Event {
	e := state(createType, "", sender, fields("room_version", "11"))
	e.Prev, e.Auth = nil, nil
	return e
}

// member is a sender's event that gives a user a membership.
func member(sender, user, membership string) api.Event {
	return state(memberType, user, sender, fields("membership", membership))
}

// levels is a sender's power_levels of such fields.
func levels(sender string, l ...any) api.Event {
	return state(levelsType, "", sender, fields(l...))
}

func rules(rule string) api.Event {
	return state(rulesType, "", al, fields("join_rule", rule))
}

// message is an event of that type without a key.
func message(sender, kind string) api.Event {
	e := state(kind, "", sender, fields("body", "hi"))
	e.HasKey = false
	return e
}

func brief(v any) string {
	s := fmt.Sprintf("%+v", v)
	return s[:min(len(s), 1200)]
}

// copyOf is a value that shares nothing with another one.
func copyOf(v api.Value) api.Value {
	l, f := v.List, v.Fields
	v.List, v.Fields = nil, nil
	for _, w := range l {
		v.List = append(v.List, copyOf(w))
	}
	for _, w := range f {
		v.Fields = append(v.Fields, api.Field{Name: w.Name, Value: copyOf(w.Value)})
	}
	return v
}

// copyOfEvent is an event that shares nothing with another one; empty lists are nil.
func copyOfEvent(e api.Event) api.Event {
	e.Prev, e.Auth = append([]string(nil), e.Prev...), append([]string(nil), e.Auth...)
	e.Content, e.Raw = copyOf(e.Content), copyOf(e.Raw)
	return e
}

func copyOfList(l []api.Event) []api.Event {
	var out []api.Event
	for _, e := range l {
		out = append(out, copyOfEvent(e))
	}
	return out
}

// selects asks Select, and holds it against the oracle.
func selects(t *testing.T, e api.Event) []api.Entry {
	t.Helper()
	before := copyOfEvent(e)
	got, want := auth.Select(e), oracleSelect(e)
	if !slices.Equal(got, want) {
		t.Fatalf("Select(%s): %v; not %v", brief(e), got, want)
	}
	for i, p := range got {
		if p.ID != "" || slices.Contains(got[:i], p) {
			t.Fatalf("Select(%s): %v", brief(e), got)
		}
	}
	if !reflect.DeepEqual(copyOfEvent(e), before) {
		t.Fatalf("Select changed %s", brief(before))
	}
	return got
}

// levelIs asks Level, and holds it against the oracle.
func levelIs(t *testing.T, user string, l []api.Event) int64 {
	t.Helper()
	before := copyOfList(l)
	got, want := auth.Level(user, l), oracleLevel(user, l)
	if got != want {
		t.Fatalf("Level(%q, %s): %d; not %d", user, brief(l), got, want)
	}
	if !reflect.DeepEqual(copyOfList(l), before) {
		t.Fatalf("Level changed %s", brief(before))
	}
	return got
}

// checks asks Check, and holds it against the oracle.
func checks(t *testing.T, e api.Event, l []api.Event) int {
	t.Helper()
	before, listBefore := copyOfEvent(e), copyOfList(l)
	got, want := auth.Check(e, l), oracleCheck(e, l)
	if got != want {
		t.Fatalf("Check(%s, %s): %d; not %d", brief(e), brief(l), got, want)
	}
	if !reflect.DeepEqual(copyOfEvent(e), before) || !reflect.DeepEqual(copyOfList(l), listBefore) {
		t.Fatalf("Check changed %s or %s", brief(before), brief(listBefore))
	}
	return got
}

func TestExamples(t *testing.T) {
	c, j := create(al), member(al, al, "join")
	j.Prev = []string{c.ID}
	l := []api.Event{c, j}
	keyed := state(messageType, bo, al, fields())
	hundred := levels(al, "users", fields(al, 100))
	for i, x := range []struct {
		e    api.Event
		l    []api.Event
		want int
	}{
		{c, nil, 0}, {j, l[:1], 0},
		{message(al, messageType), l, 0},
		{message(bo, messageType), l[:1], 40},
		{message(al, messageType), append(l[:2:2], member(bo, bo, "join")), 11},
		{member(bo, bo, "join"), l[:1], 23},
		{member(bo, bo, "join"), []api.Event{c, rules("public")}, 0},
		{member(al, bo, "invite"), l, 0},
		{member(bo, ca, "invite"), l[:1], 24},
		{levels(al, "users", fields(al, 50)), l, 0},
		{levels(al, "users", fields(bo, 101)), l, 0},
		{levels(al, "users", fields(al, 100, bo, 101)), append(l[:2:2], hundred), 47},
		{levels(al, "users", fields(al, 100, bo, 100)), append(l[:2:2], hundred), 0},
		{keyed, l, 42},
	} {
		if got := checks(t, x.e, x.l); got != x.want {
			t.Errorf("example %d: %d; not %d", i, got, x.want)
		}
	}
}

func TestSelect(t *testing.T) {
	c, p, r := api.Entry{Type: createType}, api.Entry{Type: levelsType}, api.Entry{Type: rulesType}
	of := func(user string) api.Entry { return api.Entry{Type: memberType, Key: user} }
	keyless := func(e api.Event) api.Event { e.HasKey = false; return e }
	member2 := func(content api.Value) api.Event { return state(memberType, bo, al, content) }
	for _, x := range []struct {
		e    api.Event
		want []api.Entry
	}{
		{create(al), nil},
		{state(createType, "", "", api.Value{}), nil},
		{keyless(create(al)), []api.Entry{c, p, of(al)}},
		{state(createType, "a", al, fields()), []api.Entry{c, p, of(al)}},
		{state(createType, bo, al, fields("membership", "join")), []api.Entry{c, p, of(al)}},
		{message(al, messageType), []api.Entry{c, p, of(al)}},
		{message("", ""), []api.Entry{c, p, of("")}},
		{state(messageType, bo, al, fields("membership", "join")), []api.Entry{c, p, of(al)}},
		{levels(al), []api.Entry{c, p, of(al)}},
		{rules("public"), []api.Entry{c, p, of(al)}},
		{member(al, al, "join"), []api.Entry{c, p, r, of(al)}},
		{member(al, al, "invite"), []api.Entry{c, p, r, of(al)}},
		{member(al, al, "leave"), []api.Entry{c, p, of(al)}},
		{member(al, al, "ban"), []api.Entry{c, p, of(al)}},
		{member(al, bo, "join"), []api.Entry{c, p, r, of(al), of(bo)}},
		{member(al, bo, "invite"), []api.Entry{c, p, r, of(al), of(bo)}},
		{member(al, bo, "leave"), []api.Entry{c, p, of(al), of(bo)}},
		{member(al, bo, "ban"), []api.Entry{c, p, of(al), of(bo)}},
		{member(al, bo, "Join"), []api.Entry{c, p, of(al), of(bo)}},
		{member(al, bo, ""), []api.Entry{c, p, of(al), of(bo)}},
		{member(al, "", "join"), []api.Entry{c, p, r, of(al), of("")}},
		{member("", bo, "join"), []api.Entry{c, p, r, of(""), of(bo)}},
		{member2(fields()), []api.Entry{c, p, of(al), of(bo)}},
		{member2(fields("membership", "join", "membership", "leave")), []api.Entry{c, p, r, of(al), of(bo)}},
		{member2(fields("membership", "leave", "membership", "join")), []api.Entry{c, p, of(al), of(bo)}},
		{member2(fields("membership", 1, "membership", "join")), []api.Entry{c, p, of(al), of(bo)}},
		{member2(fields("x", fields("membership", "join"))), []api.Entry{c, p, of(al), of(bo)}},
		// One without a key is a member, too, but there is no member of its key, whatever Key says.
		{keyless(member(al, "", "join")), []api.Entry{c, p, r, of(al)}},
		{keyless(member(al, "", "invite")), []api.Entry{c, p, r, of(al)}},
		{keyless(member(al, bo, "join")), []api.Entry{c, p, r, of(al)}},
		{keyless(member(al, al, "invite")), []api.Entry{c, p, r, of(al)}},
		{keyless(member("", "", "join")), []api.Entry{c, p, r, of("")}},
		{keyless(member(al, bo, "leave")), []api.Entry{c, p, of(al)}},
		{keyless(member(al, bo, "ban")), []api.Entry{c, p, of(al)}},
		{keyless(member(al, bo, "knock")), []api.Entry{c, p, of(al)}},
		{keyless(member2(fields())), []api.Entry{c, p, of(al)}},
		{keyless(member2(fields("membership", "leave", "membership", "join"))), []api.Entry{c, p, of(al)}},
		// The other names are meant with the empty key alone, and no other type's word matters.
		{keyless(rules("public")), []api.Entry{c, p, of(al)}},
		{keyless(state(messageType, "", al, fields("membership", "join"))), []api.Entry{c, p, of(al)}},
		{keyless(state(createType, "", al, fields("membership", "join"))), []api.Entry{c, p, of(al)}},
	} {
		if got := selects(t, x.e); !slices.Equal(got, x.want) {
			t.Errorf("Select(%s): %v; not %v", brief(x.e), got, x.want)
		}
	}
	for _, v := range odd() {
		want := []api.Entry{c, p, of(al), of(bo)}
		if got := selects(t, member2(v)); !slices.Equal(got, want) {
			t.Errorf("Select of a member with the content %s: %v", brief(v), got)
		}
		if got := selects(t, member2(fields("membership", v))); !slices.Equal(got, want) {
			t.Errorf("Select of a member with the membership %s: %v", brief(v), got)
		}
	}
}

// TestSelectIsNew: no two answers, and no answer and an argument, share memory.
func TestSelectIsNew(t *testing.T) {
	e := member(strings.Clone(al), strings.Clone(bo), "join")
	a, b := auth.Select(e), auth.Select(e)
	a = append(a, api.Entry{ID: "a"})
	b = append(b, api.Entry{ID: "b"})
	for i := range a {
		a[i] = api.Entry{}
	}
	if got := b[:len(b)-1]; !slices.Equal(got, oracleSelect(e)) {
		t.Errorf("two answers share memory: %v", got)
	}
	for _, p := range b {
		for _, s := range []string{e.Sender, e.Key} {
			if p.Key == s && unsafe.StringData(p.Key) == unsafe.StringData(s) {
				t.Errorf("%q is the argument's", s)
			}
		}
	}
}

func TestLevel(t *testing.T) {
	c := create(al)
	by := func(l ...any) []api.Event { return []api.Event{c, levels(al, l...)} }
	keyless := levels(al, "users", fields(al, 7))
	keyless.HasKey = false
	keyed := levels(al, "users", fields(al, 7))
	keyed.Key = "k"
	createKeyless, createKeyed := create(bo), create(bo)
	createKeyless.HasKey, createKeyed.Key = false, "k"
	content := func(v api.Value) api.Event { return state(levelsType, "", al, v) }
	for i, x := range []struct {
		user string
		l    []api.Event
		want int64
	}{
		{al, nil, 0}, {"", nil, 0},
		{al, []api.Event{c}, 100}, {bo, []api.Event{c}, 0}, {"", []api.Event{c}, 0},
		{"", []api.Event{create("")}, 100}, {al, []api.Event{create("")}, 0},
		{al, []api.Event{c, create(bo)}, 100}, {bo, []api.Event{c, create(bo)}, 0},
		{bo, []api.Event{createKeyless, c}, 0}, {al, []api.Event{createKeyless, createKeyed, c}, 100}, {bo, []api.Event{createKeyed}, 0},
		// A create's content, room and the like don't matter.
		{al, []api.Event{state(createType, "", al, api.Value{})}, 100},
		{al, []api.Event{c, keyless}, 100}, {al, []api.Event{c, keyed}, 100}, {al, []api.Event{keyed, keyless, levels(bo)}, 0},
		{al, by(), 0}, {bo, by(), 0},
		{al, by("users", fields(al, 7)), 7}, {bo, by("users", fields(al, 7)), 0},
		{al, by("users", fields(al, -7), "users_default", 3), -7}, {bo, by("users", fields(al, -7), "users_default", 3), 3},
		{al, by("users_default", 3, "users", fields(al, 0)), 0},
		{al, by("users_default", -3), -3},
		{al, by("users", fields(al, 1, al, 2)), 1}, {al, by("users", fields(al, "1", al, 2), "users_default", 3), 3},
		{al, by("users", fields(al, 1), "users", fields(al, 2)), 1}, {al, by("users", 5, "users", fields(al, 2)), 0},
		{al, by("users_default", 5, "users_default", 6), 5}, {al, by("users_default", "5", "users_default", 6), 0},
		{al, by("users", fields(al, "9")), 0}, {al, by("users", "9", "users_default", 4), 4}, {al, by(al, 9), 0},
		{"users", by("users", fields("users", 8)), 8}, {"", by("users", fields("", 8)), 8}, {"users_default", by("users_default", 8), 8},
		{al, []api.Event{levels(al, "users", fields(al, 7))}, 7},
		{al, []api.Event{levels(al, "users", fields(al, 7)), levels(al, "users", fields(al, 8)), c}, 7},
		{al, by("users", fields(al, number(math.MaxInt64), bo, number(math.MinInt64))), math.MaxInt64},
		{bo, by("users", fields(al, number(math.MaxInt64), bo, number(math.MinInt64))), math.MinInt64},
	} {
		if got := levelIs(t, x.user, x.l); got != x.want {
			t.Errorf("%d: Level(%q, %s): %d; not %d", i, x.user, brief(x.l), got, x.want)
		}
	}
	for _, v := range odd() {
		for _, e := range []api.Event{content(v), levels(al, "users", v), levels(al, "users", fields(al, v)), levels(al, "users_default", v)} {
			if got := levelIs(t, al, []api.Event{c, e}); got != 0 {
				t.Errorf("by %s: %d; not 0", brief(e), got)
			}
		}
	}
}
