package res_test

import (
	"fmt"
	"math"
	"math/rand"
	"slices"
	"strings"
	"testing"

	"covey/api"
	"covey/auth"
	"covey/res"
)

// chance makes rooms by chance.
type chance struct{ *rand.Rand }

// pick is one of some.
func pick[T any](c chance, some ...T) T { return some[c.Intn(len(some))] }

// seldom is true once in so many times.
func (c chance) seldom(n int) bool { return c.Intn(n) == 0 }

// shuffled is a list in some order.
func shuffled[T any](c chance, l []T) []T {
	l = slices.Clone(l)
	c.Shuffle(len(l), func(i, j int) { l[i], l[j] = l[j], l[i] })
	return l
}

// deed is a state event, or seldom a message, without its Auth.
func (c chance) deed(id string) api.Event {
	sender := pick(c, al, al, bo, bo, ca)
	stamp := int64(c.Intn(12))
	switch c.Intn(10) {
	case 0, 1, 2:
		user := pick(c, al, bo, ca, ca)
		if c.seldom(2) {
			user = sender
		}
		return member(id, sender, user, pick(c, "join", "join", "invite", "leave", "leave", "ban"), stamp, "")
	case 3, 4:
		return event(id, levelsType, "", sender, stamp, "", "users", fields(al, pick(c, 100, 100, 100, 60), bo, pick(c, 0, 40, 50, 60, 100), ca, pick(c, 0, 50)), "state_default", pick(c, 0, 40, 50, 50))
	case 5:
		return rules(id, sender, pick(c, "public", "public", "invite", "private"), stamp, "")
	}
	e := event(id, topicType, pick(c, "", "", "k"), sender, stamp, "")
	e.HasKey = !c.seldom(6)
	return e
}

// odd makes an event an odd one.
func (c chance) odd(e api.Event) api.Event {
	switch c.Intn(6) {
	case 0:
		e.HasKey = !e.HasKey
	case 1:
		e.Key = pick(c, "", "k", al, bo)
	case 2:
		e.Sender = pick(c, "", "al", e.Key)
	case 3:
		e.Type = pick(c, createType, memberType, levelsType, rulesType, "")
	case 4:
		e.Stamp = pick[int64](c, math.MinInt64, math.MaxInt64, -1)
	case 5:
		e.Content.Kind = pick(c, -1, 0, 4, 6)
	}
	return e
}

// question is what Resolve is asked.
type question struct {
	states   []api.State
	events   []api.Event
	rejected []string
}

// grown is a room that grew as rooms do: events on several branches, each of which most often is allowed by what it names.
func (c chance) grown() question {
	g := base()
	g[4].Stamp = 3
	branches := []api.State{g.state("")}
	var rejected []string
	for i := range 4 + c.Intn(20) {
		at := c.Intn(len(branches))
		if len(branches) < 4 && c.seldom(4) {
			branches = append(branches, slices.Clone(branches[at]))
			at = len(branches) - 1
		}
		e := c.deed(fmt.Sprintf("%c%d", 'a'+rune(c.Intn(26)), i))
		e.Stamp += int64(i / 2)
		var l []api.Event
		for _, p := range auth.Select(e) {
			if x := slices.IndexFunc(branches[at], func(x api.Entry) bool { return x.Type == p.Type && x.Key == p.Key }); x >= 0 {
				l = append(l, g.find(branches[at][x].ID))
				e.Auth = append(e.Auth, branches[at][x].ID)
			}
		}
		if auth.Check(e, l) != 0 {
			if c.seldom(4) {
				g, rejected = append(g, e), append(rejected, e.ID)
			}
			continue
		}
		g = append(g, e)
		if e.HasKey {
			s := slices.DeleteFunc(slices.Clone(branches[at]), func(x api.Entry) bool { return x.Type == e.Type && x.Key == e.Key })
			branches[at] = sorted(append(s, api.Entry{Type: e.Type, Key: e.Key, ID: e.ID}))
		}
	}
	return question{branches, g, rejected}
}

// wild is a room whose events name any others, in rings, too, and whose states are of anything.
func (c chance) wild() question {
	g := base()
	ids := []string{"c", "c", "a", "l", "r", "b"}
	n := 3 + c.Intn(10)
	for i := range n {
		ids = append(ids, fmt.Sprintf("%c", 'A'+i))
	}
	for _, id := range ids[6:] {
		e := c.deed(id)
		if c.seldom(6) {
			e = c.odd(e)
		}
		for range c.Intn(5) {
			e.Auth = append(e.Auth, pick(c, ids...))
		}
		if c.seldom(3) {
			e.Auth = append(e.Auth, "c", "a", "l")
		}
		g = append(g, e)
	}
	if c.seldom(4) {
		g = g.with(c.deed(pick(c, append(ids, "")...)))
	}
	if c.seldom(4) {
		g = shuffled(c, g)
	}
	var q question
	for range c.Intn(4) {
		q.states = append(q.states, c.state(g))
	}
	for c.seldom(3) {
		q.rejected = append(q.rejected, pick(c, append(ids, "", "no")...))
	}
	q.events = g
	return q
}

// state is a state of any events, mostly those that rooms begin with.
func (c chance) state(g graph) api.State {
	var s api.State
	for _, e := range shuffled(c, g) {
		if c.seldom(2) && !(len(e.ID) == 1 && e.ID > "Z" && !c.seldom(4)) {
			continue
		}
		x := api.Entry{Type: e.Type, Key: e.Key, ID: e.ID}
		switch {
		case c.seldom(60):
			x.ID = pick(c, "", "no")
		case c.seldom(60):
			x.Type, x.Key = pick(c, "t", createType, memberType, levelsType), pick(c, "", "k", al)
		}
		s = append(s, x)
	}
	if c.seldom(3) {
		return s
	}
	// Each pair once.
	s = sorted(s)
	return slices.CompactFunc(s, func(a, b api.Entry) bool { return a.Type == b.Type && a.Key == b.Key })
}

// byChance goes through rooms of both makes.
func byChance(seed int64, n int, do func(c chance, q question)) {
	c := chance{rand.New(rand.NewSource(seed))}
	for i := range n {
		q := c.grown()
		if i%2 == 1 {
			q = c.wild()
		}
		do(c, q)
	}
}

// TestChance holds Resolve against the oracle; all that the promise tells of must be met with.
func TestChance(t *testing.T) {
	seen := map[string]int{}
	byChance(1, 16000, func(_ chance, q question) {
		got := resolves(t, q.states, q.events, q.rejected)
		want, met := oracleResolve(q.states, q.events, q.rejected)
		for what, n := range met {
			seen[what] += n
		}
		isNew := len(q.states) > 1
		for _, s := range q.states {
			isNew = isNew && !slices.Equal(sorted(s), want)
		}
		if isNew {
			seen["an answer that was no state"]++
		}
		if len(got) > 0 && len(q.states) > 1 {
			seen["an answer out of several"]++
		}
	})
	for _, what := range []string{
		"conflicted by a chain alone", "a sure pair's entry is put back", "a ring in X", "one of X waits", "a place counts for more than a stamp", "a place in the line", "an answer that was no state", "an answer out of several",
		"x: allowed", "x: refused", "x: not tried", "x: an authority counts", "rest: allowed", "rest: refused", "rest: not tried", "rest: an authority counts",
	} {
		if seen[what] < 100 {
			t.Errorf("%s: %d times", what, seen[what])
		}
	}
}

// counts are a state's entries that count, as they must stand.
func counts(s api.State, events []api.Event) api.State {
	var out api.State
	for _, x := range s {
		isEvent := x.ID != "" && slices.ContainsFunc(events, func(e api.Event) bool { return e.ID == x.ID })
		isTold := slices.ContainsFunc(out, func(y api.Entry) bool { return x.Type == y.Type && x.Key == y.Key })
		if isEvent && !isTold {
			out = append(out, x)
		}
	}
	return sorted(out)
}

// TestWhatFollows is P17.2.
func TestWhatFollows(t *testing.T) {
	byChance(2, 10000, func(c chance, q question) {
		want := res.Resolve(q.states, q.events, q.rejected)
		is := func(what string, got api.State) {
			if !slices.Equal(got, want) {
				t.Fatalf("%s: %v; not %v: %s by %s without %q", what, got, want, brief(q.states), brief(q.events), q.rejected)
			}
		}
		is("asked twice", res.Resolve(q.states, q.events, q.rejected))
		is("the order of the states", res.Resolve(shuffled(c, q.states), q.events, q.rejected))
		is("the order of what is rejected", res.Resolve(q.states, q.events, shuffled(c, q.rejected)))
		if len(q.states) > 0 {
			is("a state that stands twice", res.Resolve(shuffled(c, append(slices.Clone(q.states), pick(c, q.states...))), q.events, q.rejected))
		}
		var ids []string
		for _, e := range q.events {
			ids = append(ids, e.ID)
		}
		slices.Sort(ids)
		if len(slices.Compact(slices.Clone(ids))) == len(ids) {
			is("the order of the events", res.Resolve(q.states, shuffled(c, q.events), q.rejected))
		}
		for _, s := range q.states {
			if got := res.Resolve([]api.State{s}, q.events, q.rejected); !slices.Equal(got, counts(s, q.events)) {
				t.Fatalf("of one: %v; not %v", got, s)
			}
		}
		fits(t, q, want)
	})
}

// fits holds an answer's entries against what P17.2 says of each.
func fits(t *testing.T, q question, got api.State) {
	t.Helper()
	var told []api.State
	for _, s := range q.states {
		told = append(told, counts(s, q.events))
	}
	areAll := func(x api.Entry) bool {
		return !slices.ContainsFunc(told, func(s api.State) bool { return !slices.Contains(s, x) })
	}
	for i, x := range got {
		if i > 0 && (got[i-1].Type > x.Type || got[i-1].Type == x.Type && got[i-1].Key >= x.Key) {
			t.Fatalf("the order of %v", got)
		}
		at := slices.IndexFunc(q.events, func(e api.Event) bool { return e.ID == x.ID })
		if x.ID == "" || at < 0 {
			t.Fatalf("%v is no event", x)
		}
		e := q.events[at]
		if !areAll(x) && (slices.Contains(q.rejected, x.ID) || !e.HasKey || e.Type != x.Type || e.Key != x.Key) {
			t.Fatalf("%v stands for what it doesn't, or is rejected", x)
		}
	}
	if len(told) == 0 {
		return
	}
	for _, x := range told[0] {
		if areAll(x) && !slices.Contains(got, x) {
			t.Fatalf("%v is left out, though all agree", x)
		}
	}
}

// TestWhatDoesNotMatter: neither what events follow (but a first join's), nor their depths, nor what they were read from; nor events that nothing names.
func TestWhatDoesNotMatter(t *testing.T) {
	byChance(3, 5000, func(c chance, q question) {
		want := res.Resolve(q.states, q.events, q.rejected)
		events := slices.Clone(q.events)
		for i := range events {
			if events[i].Type != createType && events[i].ID != "a" {
				events[i].Prev = []string{"1", "2"}
			}
			events[i].Depth, events[i].Raw = c.Int63()-c.Int63(), fields("type", "else")
		}
		for i := range 3 {
			e := c.deed(strings.Repeat("!", i+2))
			e.Auth = []string{"c", "a", "l", pick(c, q.events...).ID}
			events = slices.Insert(events, c.Intn(len(events)+1), e)
		}
		if got := res.Resolve(q.states, events, append(q.rejected, "!!", "else")); !slices.Equal(got, want) {
			t.Fatalf("%v; not %v: %s by %s without %q", got, want, brief(q.states), brief(q.events), q.rejected)
		}
	})
}
