package auth_test

import (
	"regexp"
	"strings"

	"covey/api"
)

// The oracle tells P16.1 to P16.3 anew: contents are maps of Go's own, names are told by patterns, and the rules stand in a row, each with its number.

var (
	userForm = regexp.MustCompile(`^@[a-z0-9._=/-]{1,32}:(` + serverForm + `)$`)
	roomForm = regexp.MustCompile(`^![a-zA-Z0-9_-]{1,32}:(` + serverForm + `)$`)
)

// serverForm leaves out how long a server's name may be.
const serverForm = `[a-z0-9]+(?:-+[a-z0-9]+)*(?:\.[a-z0-9]+(?:-+[a-z0-9]+)*)*`

// oracleServer is the server of a name of that form, and whether it is one.
func oracleServer(form *regexp.Regexp, s string) (string, bool) {
	m := form.FindStringSubmatch(s)
	if m == nil || len(m[1]) > 64 || strings.HasSuffix(s, "\n") {
		return "", false
	}
	return m[1], true
}

func oracleUser(s string) bool {
	_, ok := oracleServer(userForm, s)
	return ok
}

// other stands for a value that is neither a number nor a word nor an object.
type other struct{}

// plain is a value as Go's own: int64, string, map[string]any or other.
func plain(v api.Value) any {
	switch v.Kind {
	case api.Int:
		return v.Int
	case api.Text:
		return v.Text
	case api.Object:
		m := map[string]any{}
		for i := len(v.Fields) - 1; i >= 0; i-- {
			m[v.Fields[i].Name] = plain(v.Fields[i].Value)
		}
		return m
	}
	return other{}
}

// dig is what stands at a path of names; nil: nothing.
func dig(v api.Value, path ...string) any {
	at := plain(v)
	for _, name := range path {
		m, ok := at.(map[string]any)
		if !ok {
			return nil
		}
		at = m[name]
	}
	return at
}

// firstInt is the first of some that is a number.
func firstInt(some ...any) int64 {
	for _, v := range some {
		if n, ok := v.(int64); ok {
			return n
		}
	}
	panic("no number")
}

// oracleState is which event is the first that stands for each pair, and whether two do.
func oracleState(l []api.Event) (map[[2]string]api.Event, bool) {
	state, two := map[[2]string]api.Event{}, false
	for _, e := range l {
		pair := [2]string{e.Type, e.Key}
		if !e.HasKey {
			continue
		}
		if _, there := state[pair]; there {
			two = true
			continue
		}
		state[pair] = e
	}
	return state, two
}

func oracleSelect(e api.Event) []api.Entry {
	if e.Type == "m.room.create" && e.HasKey && e.Key == "" {
		return nil
	}
	m := dig(e.Content, "membership")
	member := e.Type == "m.room.member"
	var out []api.Entry
	for _, p := range []struct {
		told      bool
		kind, key string
	}{
		{true, "m.room.create", ""},
		{true, "m.room.power_levels", ""},
		{member && (m == "join" || m == "invite"), "m.room.join_rules", ""},
		{true, "m.room.member", e.Sender},
		{member && e.HasKey && e.Key != e.Sender, "m.room.member", e.Key},
	} {
		if p.told {
			out = append(out, api.Entry{Type: p.kind, Key: p.key})
		}
	}
	return out
}

func oracleLevel(user string, l []api.Event) int64 {
	state, _ := oracleState(l)
	levels, told := state[[2]string{"m.room.power_levels", ""}]
	create, made := state[[2]string{"m.room.create", ""}]
	switch {
	case told:
		return firstInt(dig(levels.Content, "users", user), dig(levels.Content, "users_default"), int64(0))
	case made && create.Sender == user:
		return 100
	}
	return 0
}

// oracleNeed is the level for a deed, or of an event's type, if deed is empty.
func oracleNeed(deed string, e api.Event, l []api.Event) int64 {
	state, _ := oracleState(l)
	levels, told := state[[2]string{"m.room.power_levels", ""}]
	c := levels.Content
	switch {
	case deed == "invite":
		return firstInt(dig(c, deed), int64(0))
	case deed != "":
		return firstInt(dig(c, deed), int64(50))
	case !told:
		return 0
	case e.HasKey:
		return firstInt(dig(c, "events", e.Type), dig(c, "state_default"), int64(50))
	}
	return firstInt(dig(c, "events", e.Type), dig(c, "events_default"), int64(0))
}

func oracleMembership(user string, l []api.Event) string {
	state, _ := oracleState(l)
	if w, ok := dig(state[[2]string{"m.room.member", user}].Content, "membership").(string); ok {
		return w
	}
	return "leave"
}

// step is a rule: what Check answers, if it holds.
type step struct {
	answer int
	holds  func() bool
}

// walk is the answer of the first step that holds.
func walk(steps ...[]step) int {
	for _, some := range steps {
		for _, s := range some {
			if s.holds() {
				return s.answer
			}
		}
	}
	return 0
}

func always() bool { return true }

func oracleCheck(e api.Event, l []api.Event) int {
	if e.Type == "m.room.create" && e.HasKey && e.Key == "" {
		room, isRoom := oracleServer(roomForm, e.Room)
		user, isUser := oracleServer(userForm, e.Sender)
		return walk([]step{
			{1, func() bool { return len(e.Prev) != 0 }},
			{2, func() bool { return len(e.Auth) != 0 }},
			{3, func() bool { return !isRoom || !isUser || room != user }},
			{4, func() bool { return dig(e.Content, "room_version") != "11" }},
		})
	}
	if e.Type == "m.room.member" {
		return walk(oracleList(e, l), oracleMember(e, l))
	}
	return walk(oracleList(e, l), oracleOther(e, l), oracleLevels(e, l))
}

func oracleList(e api.Event, l []api.Event) []step {
	state, two := oracleState(l)
	one := func(is func(a api.Event) bool) func() bool {
		return func() bool {
			for _, a := range l {
				if is(a) {
					return true
				}
			}
			return false
		}
	}
	return []step{
		{10, func() bool { return two }},
		{11, one(func(a api.Event) bool {
			for _, p := range oracleSelect(e) {
				if a.HasKey && p.Type == a.Type && p.Key == a.Key {
					return false
				}
			}
			return true
		})},
		{12, one(func(a api.Event) bool { return a.Room != e.Room })},
		{13, func() bool { return state[[2]string{"m.room.create", ""}].Type == "" }},
	}
}

func oracleMember(e api.Event, l []api.Event) []step {
	state, _ := oracleState(l)
	create := state[[2]string{"m.room.create", ""}]
	sender, key := oracleMembership(e.Sender, l), oracleMembership(e.Key, l)
	mine, theirs := oracleLevel(e.Sender, l), oracleLevel(e.Key, l)
	need := func(deed string) int64 { return oracleNeed(deed, e, l) }
	joinRule, told := dig(state[[2]string{"m.room.join_rules", ""}].Content, "join_rule").(string)
	if !told {
		joinRule = "invite"
	}
	wanted, _ := dig(e.Content, "membership").(string)
	amiss := step{20, func() bool { return !e.HasKey || !oracleUser(e.Key) }}
	switch {
	case wanted == "join":
		return []step{
			amiss,
			{21, func() bool { return e.Sender != e.Key }},
			{0, func() bool { return len(e.Prev) == 1 && e.Prev[0] == create.ID && e.Key == create.Sender }},
			{22, func() bool { return key == "ban" }},
			{0, func() bool { return joinRule == "public" }},
			{0, func() bool { return joinRule == "invite" && (key == "invite" || key == "join") }},
			{23, always},
		}
	case wanted == "invite":
		return []step{
			amiss,
			{24, func() bool { return sender != "join" }},
			{25, func() bool { return key == "join" || key == "ban" }},
			{26, func() bool { return mine < need("invite") }},
		}
	case wanted == "leave" && e.Sender == e.Key:
		return []step{
			amiss,
			{0, func() bool { return sender == "join" || sender == "invite" }},
			{27, always},
		}
	case wanted == "leave":
		return []step{
			amiss,
			{28, func() bool { return sender != "join" }},
			{29, func() bool { return key == "ban" && mine < need("ban") }},
			{30, func() bool { return mine < need("kick") || theirs >= mine }},
		}
	case wanted == "ban":
		return []step{
			amiss,
			{31, func() bool { return sender != "join" }},
			{32, func() bool { return mine < need("ban") || theirs >= mine }},
		}
	}
	return []step{{20, always}}
}

func oracleOther(e api.Event, l []api.Event) []step {
	return []step{
		{40, func() bool { return oracleMembership(e.Sender, l) != "join" }},
		{41, func() bool { return oracleLevel(e.Sender, l) < oracleNeed("", e, l) }},
		{42, func() bool { return e.HasKey && strings.Index(e.Key, "@") == 0 && e.Key != e.Sender }},
		{0, func() bool { return e.Type != "m.room.power_levels" || !e.HasKey || e.Key != "" }},
	}
}

var seven = []string{"ban", "kick", "redact", "invite", "users_default", "events_default", "state_default"}

// oracleLevels are the rules of a power_levels alone.
func oracleLevels(e api.Event, l []api.Event) []step {
	state, _ := oracleState(l)
	levels, told := state[[2]string{"m.room.power_levels", ""}]
	mine := oracleLevel(e.Sender, l)
	above := func(v any) bool { n, ok := v.(int64); return ok && n > mine }
	// differ tells whether something holds of a number, at a path and one of some names behind it, that is another one in the old than in the new.
	differ := func(names, path []string, is func(name string, old, to any) bool) bool {
		for _, name := range names {
			var both [2]any
			for i, c := range []api.Value{levels.Content, e.Content} {
				if n, ok := dig(c, append(append([]string{}, path...), name)...).(int64); ok {
					both[i] = n
				}
			}
			if both[0] != both[1] && is(name, both[0], both[1]) {
				return true
			}
		}
		return false
	}
	inside := func(path string) []string {
		var names []string
		for _, c := range []api.Value{levels.Content, e.Content} {
			m, _ := dig(c, path).(map[string]any)
			for name := range m {
				names = append(names, name)
			}
		}
		return names
	}
	beyond := func(_ string, old, to any) bool { return above(old) || above(to) }
	return []step{
		{43, func() bool { return oracleAmiss(e.Content) }},
		{0, func() bool { return !told }},
		{44, func() bool { return differ(seven, nil, beyond) }},
		{45, func() bool { return differ(inside("events"), []string{"events"}, beyond) }},
		{46, func() bool {
			return differ(inside("users"), []string{"users"}, func(name string, old, to any) bool {
				n, ok := old.(int64)
				return ok && name != e.Sender && n >= mine
			})
		}},
		{47, func() bool {
			return differ(inside("users"), []string{"users"}, func(_ string, _, to any) bool { return above(to) })
		}},
	}
}

// oracleAmiss tells whether a content isn't formed as levels are.
func oracleAmiss(c api.Value) bool {
	for _, name := range seven {
		switch dig(c, name).(type) {
		case nil, int64:
		default:
			return true
		}
	}
	for _, name := range []string{"events", "users"} {
		switch m := dig(c, name).(type) {
		case nil:
		case map[string]any:
			for k, v := range m {
				if _, ok := v.(int64); !ok || name == "users" && !oracleUser(k) {
					return true
				}
			}
			if len(m) != countFields(c, name) {
				return true
			}
		default:
			return true
		}
	}
	return false
}

// countFields is how many fields the first field of that name has.
func countFields(c api.Value, name string) int {
	for _, f := range c.Fields {
		if f.Name == name {
			return len(f.Value.Fields)
		}
	}
	return 0
}
