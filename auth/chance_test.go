package auth_test

import (
	"math"
	"math/rand"
	"slices"
	"strings"
	"testing"

	"covey/api"
	"covey/auth"
)

// chance makes events by chance, of few names and levels, so that they often have to do with one another.
type chance struct{ *rand.Rand }

// pick is one of some.
func pick[T any](c chance, some ...T) T { return some[c.Intn(len(some))] }

// seldom is true once in so many times.
func (c chance) seldom(n int) bool { return c.Intn(n) == 0 }

func (c chance) user() string {
	if c.seldom(60) {
		return pick(c, "", "@", "al", "@Al:x", room, "@di:x..y")
	}
	return pick(c, al, al, bo, ca)
}

func (c chance) level() api.Value {
	if c.seldom(80) {
		return pick(c, append(odd(), text("50"), number(math.MaxInt64), number(math.MinInt64))...)
	}
	return number(pick[int64](c, -1, 0, 0, 1, 49, 50, 50, 51, 100, 100, 101))
}

func (c chance) membership() api.Value {
	if c.seldom(40) {
		return pick(c, append(odd(), text(""), text("knock"), number(1))...)
	}
	return text(pick(c, "join", "join", "join", "invite", "leave", "ban"))
}

// levelObject is an object of some levels.
func (c chance) levelObject(most int, name func() string) api.Value {
	if c.seldom(60) {
		return pick(c, append(odd(), number(1))...)
	}
	v := api.Value{Kind: api.Object}
	for range c.Intn(most + 1) {
		v.Fields = append(v.Fields, api.Field{Name: name(), Value: c.level()})
	}
	if !c.seldom(20) { // names are mostly there once
		slices.SortStableFunc(v.Fields, func(a, b api.Field) int { return strings.Compare(a.Name, b.Name) })
		v.Fields = slices.CompactFunc(v.Fields, func(a, b api.Field) bool { return a.Name == b.Name })
	}
	return v
}

// levels is a content of levels.
func (c chance) levels() api.Value {
	v := api.Value{Kind: api.Object}
	add := func(name string, w api.Value) { v.Fields = append(v.Fields, api.Field{Name: name, Value: w}) }
	if !c.seldom(5) {
		users := c.levelObject(4, c.user)
		if c.seldom(2) && users.Kind == api.Object { // mostly somebody may do something
			users.Fields = slices.DeleteFunc(users.Fields, func(f api.Field) bool { return f.Name == al })
			users.Fields = append(users.Fields, api.Field{Name: al, Value: number(100)})
		}
		add("users", users)
	}
	if !c.seldom(3) {
		add("events", c.levelObject(3, func() string { return pick(c, messageType, messageType, levelsType, rulesType, "") }))
	}
	for _, name := range seven {
		if c.seldom(5) {
			add(name, c.level())
		}
	}
	if c.seldom(20) && len(v.Fields) > 0 {
		v.Fields = append(v.Fields, api.Field{Name: v.Fields[0].Name, Value: c.level()})
	}
	return v
}

// altered are levels a little unlike some others.
func (c chance) altered(v api.Value) api.Value {
	v = copyOf(v)
	for range c.Intn(3) {
		if len(v.Fields) == 0 {
			return v
		}
		at := c.Intn(len(v.Fields))
		f := &v.Fields[at]
		switch {
		case c.seldom(4):
			v.Fields = slices.Delete(v.Fields, at, at+1)
		case f.Value.Kind != api.Object:
			f.Value = c.level()
		case c.seldom(2) || len(f.Value.Fields) == 0:
			f.Value.Fields = append(f.Value.Fields, api.Field{Name: pick(c, "@ed:x", "@fy:x"), Value: c.level()})
		case c.seldom(2):
			f.Value.Fields = slices.Delete(f.Value.Fields, 0, 1)
		default:
			f.Value.Fields[c.Intn(len(f.Value.Fields))].Value = c.level()
		}
	}
	return v
}

func (c chance) content(kind string) api.Value {
	if c.seldom(60) {
		return pick(c, odd()...)
	}
	switch kind {
	case createType:
		return fields("room_version", pick(c, "11", "11", "11", "10"))
	case memberType:
		return fields("membership", c.membership())
	case levelsType:
		return c.levels()
	case rulesType:
		return fields("join_rule", pick(c, text("public"), text("invite"), text("private"), text(""), number(1)))
	}
	return fields("body", "hi")
}

// event is an event of any type.
func (c chance) event() api.Event {
	kind := pick(c, createType, memberType, memberType, memberType, memberType, levelsType, levelsType, rulesType, messageType, messageType)
	e := state(kind, "", c.user(), c.content(kind))
	switch kind {
	case memberType:
		e.Key = c.user()
		if c.seldom(2) {
			e.Key = e.Sender
		}
	case messageType:
		e.HasKey, e.Key = c.seldom(2), pick(c, "", "", "k", c.user())
	}
	if c.seldom(30) {
		e.HasKey = !e.HasKey
	}
	if c.seldom(30) {
		e.Key = pick(c, "", "k", c.user())
	}
	e.Prev = pick(c, nil, []string{"$" + createType}, []string{"$p"}, []string{"$" + createType, "$p"})
	e.Auth = pick(c, nil, nil, []string{"$a"})
	e.Room = pick(c, room, room, room, room, room, room, room, room, room, "!r:y")
	return e
}

// list is a list that mostly is of the pairs that may authorise an event.
func (c chance) list(e api.Event) []api.Event {
	var l []api.Event
	for _, p := range oracleSelect(e) {
		if p.Type != createType && c.seldom(4) || c.seldom(40) {
			continue
		}
		a := state(p.Type, p.Key, pick(c, al, al, al, bo), c.content(p.Type))
		a.Room = e.Room
		if p.Type == levelsType && e.Type == levelsType && c.seldom(2) {
			a.Content = c.altered(e.Content)
		}
		if p.Type == memberType && p.Key == e.Sender && !c.seldom(3) {
			a.Content = fields("membership", "join")
		}
		l = append(l, a)
	}
	switch c.Intn(40) {
	case 0:
		l = append(l, c.event())
	case 1:
		l = append(l, pick(c, append(l, create(al))...))
	case 2:
		if len(l) > 0 {
			l[c.Intn(len(l))].HasKey = false
		}
	case 3:
		if len(l) > 0 {
			l[c.Intn(len(l))].Room = "!q:x"
		}
	}
	c.Shuffle(len(l), func(i, j int) { l[i], l[j] = l[j], l[i] })
	return l
}

// rulesOfAll are all answers of Check.
var rulesOfAll = []int{0, 1, 2, 3, 4, 10, 11, 12, 13, 20, 21, 22, 23, 24, 25, 26, 27, 28, 29, 30, 31, 32, 40, 41, 42, 43, 44, 45, 46, 47}

// byChance goes through events and lists by chance.
func byChance(seed int64, n int, do func(c chance, e api.Event, l []api.Event)) {
	c := chance{rand.New(rand.NewSource(seed))}
	for range n {
		e := c.event()
		do(c, e, c.list(e))
	}
}

func TestChance(t *testing.T) {
	seen := map[int]int{}
	byChance(1, 100000, func(c chance, e api.Event, l []api.Event) {
		selects(t, e)
		levelIs(t, c.user(), l)
		seen[checks(t, e, l)]++
	})
	for _, n := range rulesOfAll {
		if seen[n] < 20 {
			t.Errorf("%d was answered %d times", n, seen[n])
		}
		delete(seen, n)
	}
	if len(seen) > 0 {
		t.Errorf("answers that are none: %v", seen)
	}
}

// TestWhatDoesNotMatter: but for what the rules name nothing is looked at (P16.4): where no two of a list stand for one pair, its order isn't either.
func TestWhatDoesNotMatter(t *testing.T) {
	byChance(2, 50000, func(c chance, e api.Event, l []api.Event) {
		want, user := auth.Check(e, l), c.user()
		level := auth.Level(user, l)
		isCreate := e.Type == createType && e.HasKey && e.Key == ""
		_, two := oracleState(l)
		e, l = copyOfEvent(e), copyOfList(l)
		for i := range l {
			if l[i].Type != createType {
				l[i].ID, l[i].Sender = "$else", c.user()
			}
			l[i].Prev, l[i].Auth, l[i].Depth, l[i].Stamp, l[i].Raw = []string{"$1"}, []string{"$2"}, c.Int63(), -c.Int63(), c.levels()
			if l[i].Content.Kind == api.Object {
				l[i].Content.Fields = append(l[i].Content.Fields, api.Field{Name: "else", Value: c.levels()})
			}
		}
		e.ID, e.Depth, e.Stamp, e.Raw = "$else", c.Int63(), -c.Int63(), c.levels()
		if !isCreate {
			e.Auth = []string{"$1", "$2"}
		}
		if !two {
			c.Shuffle(len(l), func(i, j int) { l[i], l[j] = l[j], l[i] })
		}
		if got := auth.Check(e, l); got != want {
			t.Fatalf("Check(%s, %s): %d; not %d", brief(e), brief(l), got, want)
		}
		if got := auth.Level(user, l); !two && got != level {
			t.Fatalf("Level(%q, %s): %d; not %d", user, brief(l), got, level)
		}
		if auth.Check(e, l) != auth.Check(e, slices.Clone(l)) {
			t.Fatal("Check asked twice")
		}
	})
}

// TestWhoIsNotJoined: does nothing but join, or leave an invite (P16.4).
func TestWhoIsNotJoined(t *testing.T) {
	seen := map[string]int{}
	byChance(3, 100000, func(_ chance, e api.Event, l []api.Event) {
		isCreate := e.Type == createType && e.HasKey && e.Key == ""
		membership := oracleMembership(e.Sender, l)
		if isCreate || membership == "join" || auth.Check(e, l) != 0 {
			return
		}
		wanted, _ := dig(e.Content, "membership").(string)
		if e.Type != memberType || e.Key != e.Sender || wanted != "join" && (wanted != "leave" || membership != "invite") {
			t.Fatalf("%s is allowed by %s", brief(e), brief(l))
		}
		seen[wanted]++
	})
	if len(seen) != 2 {
		t.Errorf("allowed: %v", seen)
	}
}

// TestNobodyRaises: above one's own level, nor changes what stands above it (P16.4), where levels are told.
func TestNobodyRaises(t *testing.T) {
	raised := 0
	byChance(4, 200000, func(_ chance, e api.Event, l []api.Event) {
		state, _ := oracleState(l)
		old, told := state[[2]string{levelsType, ""}]
		if e.Type != levelsType || !e.HasKey || e.Key != "" || !told || auth.Check(e, l) != 0 {
			return
		}
		mine, was, is := auth.Level(e.Sender, l), []api.Event{old}, []api.Event{e}
		for _, name := range seven {
			a, isA := dig(old.Content, name).(int64)
			b, isB := dig(e.Content, name).(int64)
			if (a != b || isA != isB) && (isA && a > mine || isB && b > mine) {
				t.Fatalf("%s: %d to %d by %d", name, a, b, mine)
			}
		}
		for _, user := range []string{al, bo, ca, "@ed:x", "@fy:x", "@gu:x"} {
			from, to := auth.Level(user, was), auth.Level(user, is)
			// A number that goes leaves its user to users_default, which nobody may have moved.
			_, kept := dig(e.Content, "users", user).(int64)
			rest, _ := dig(e.Content, "users_default").(int64)
			if to > from && to > mine && (kept || rest <= mine) {
				t.Fatalf("%s: %d to %d by %d", user, from, to, mine)
			}
			if n, is := dig(old.Content, "users", user).(int64); is && n >= mine && user != e.Sender && to != n {
				t.Fatalf("%s: %d to %d by %d", user, n, to, mine)
			}
			if to > from {
				raised++
			}
		}
	})
	if raised < 20 {
		t.Errorf("raised: %d", raised)
	}
}
