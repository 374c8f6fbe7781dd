package res_test

import (
	"fmt"
	"math"
	"reflect"
	"slices"
	"strings"
	"testing"
	"unsafe"

	"covey/api"
	"covey/res"
)

const (
	createType = "m.room.create"
	memberType = "m.room.member"
	levelsType = "m.room.power_levels"
	rulesType  = "m.room.join_rules"
	topicType  = "m.room.topic"
)

// Some users, and the room of most tests.
const (
	al, bo, ca = "@al:x", "@bo:x", "@ca:y"
	room       = "!r:x"
)

// fields is an object of names and values, by turns: api.Value, int or string.
func fields(l ...any) api.Value {
	v := api.Value{Kind: api.Object}
	for i := 0; i < len(l); i += 2 {
		f := api.Field{Name: l[i].(string)}
		switch w := l[i+1].(type) {
		case api.Value:
			f.Value = w
		case int:
			f.Value = api.Value{Kind: api.Int, Int: int64(w)}
		case string:
			f.Value = api.Value{Kind: api.Text, Text: w}
		}
		v.Fields = append(v.Fields, f)
	}
	return v
}

// split are the words of a text.
func split(ids string) []string { return strings.Fields(ids) }

// event is a state event; auth are IDs.
func event(id, kind, key, sender string, stamp int64, auth string, content ...any) api.Event {
	return api.Event{ID: id, Type: kind, Room: room, Sender: sender, HasKey: true, Key: key, Prev: []string{"else"}, Auth: split(auth), Stamp: stamp, Content: fields(content...)}
}

func member(id, sender, user, membership string, stamp int64, auth string) api.Event {
	return event(id, memberType, user, sender, stamp, auth, "membership", membership)
}

func topic(id, sender string, stamp int64, auth string) api.Event {
	return event(id, topicType, "", sender, stamp, auth)
}

func rules(id, sender, rule string, stamp int64, auth string) api.Event {
	return event(id, rulesType, "", sender, stamp, auth, "join_rule", rule)
}

// levels are al's power_levels by which al and bo have these levels.
func levels(id string, ofAl, ofBo int, stamp int64, auth string) api.Event {
	return event(id, levelsType, "", al, stamp, auth, "users", fields(al, ofAl, bo, ofBo))
}

// graph is the events of a test.
type graph []api.Event

// base is a public room of al, which bo has joined; al's level is 100, bo's 50.
func base() graph {
	c := event("c", createType, "", al, 1, "", "room_version", "11")
	c.Prev = nil
	a := member("a", al, al, "join", 2, "c")
	a.Prev = []string{"c"}
	return graph{c, a, levels("l", 100, 50, 3, "c a"), rules("r", al, "public", 4, "c a l"), member("b", bo, bo, "join", 5, "c l r")}
}

// with is a graph with more events.
func (g graph) with(more ...api.Event) graph { return append(slices.Clone(g), more...) }

// find is the event of an ID.
func (g graph) find(id string) api.Event {
	return g[slices.IndexFunc(g, func(e api.Event) bool { return e.ID == id })]
}

// state is a state of the base's events and some more, each for its own pair; one of the base with a `-` ahead of it is left out.
func (g graph) state(ids string) api.State {
	var s api.State
	all := split(ids)
	for _, id := range append([]string{"c", "a", "l", "r", "b"}, all...) {
		if slices.Contains(all, "-"+id) || strings.HasPrefix(id, "-") {
			continue
		}
		e := g.find(id)
		s = append(s, api.Entry{Type: e.Type, Key: e.Key, ID: id})
	}
	return sorted(s)
}

// sorted is a state as it must stand.
func sorted(s api.State) api.State {
	s = slices.Clone(s)
	slices.SortStableFunc(s, func(a, b api.Entry) int {
		if a.Type != b.Type {
			return strings.Compare(a.Type, b.Type)
		}
		return strings.Compare(a.Key, b.Key)
	})
	return s
}

// brief is a value in short.
func brief(v any) string {
	s := fmt.Sprintf("%+v", v)
	return s[:min(len(s), 3000)]
}

// copies are arguments that share no list with others.
func copies(states []api.State, events []api.Event, rejected []string) ([]api.State, []api.Event, []string) {
	var ss []api.State
	for _, s := range states {
		ss = append(ss, append(api.State(nil), s...))
	}
	var es []api.Event
	for _, e := range events {
		e.Prev, e.Auth = append([]string(nil), e.Prev...), append([]string(nil), e.Auth...)
		e.Content = copyOf(e.Content)
		es = append(es, e)
	}
	return ss, es, append([]string(nil), rejected...)
}

// copyOf is a value that shares nothing with another one.
func copyOf(v api.Value) api.Value {
	l, f := v.List, v.Fields
	v.List, v.Fields = nil, nil
	for _, w := range l {
		v.List = append(v.List, copyOf(w))
	}
	for _, w := range f {
		v.Fields = append(v.Fields, api.Field{Name: w.Name, Value: copyOf(w.Value)})
	}
	return v
}

// resolves asks Resolve, and holds it against the oracle.
func resolves(t *testing.T, states []api.State, events []api.Event, rejected []string) api.State {
	t.Helper()
	s0, e0, r0 := copies(states, events, rejected)
	got := res.Resolve(states, events, rejected)
	s1, e1, r1 := copies(states, events, rejected)
	if !reflect.DeepEqual(s0, s1) || !reflect.DeepEqual(e0, e1) || !slices.Equal(r0, r1) {
		t.Fatalf("an argument was changed: %s %s %s", brief(states), brief(events), brief(rejected))
	}
	want, _ := oracleResolve(states, events, rejected)
	if !slices.Equal(got, want) {
		t.Fatalf("%v; not %v: of %s by %s without %q", got, want, brief(states), brief(events), rejected)
	}
	return got
}

// is asks for the state of some others, in their order and the other way about; states are told as graph.state takes them.
func (g graph) is(t *testing.T, want string, rejected string, states ...string) {
	t.Helper()
	var all []api.State
	for _, ids := range states {
		all = append(all, g.state(ids))
	}
	for range 2 {
		if got := resolves(t, all, g, split(rejected)); !slices.Equal(got, g.state(want)) {
			t.Errorf("%q of %q without %q: %v", want, states, rejected, got)
		}
		slices.Reverse(all)
	}
}

// TestExamples are the chapter's.
func TestExamples(t *testing.T) {
	g := base().with(
		topic("p", al, 5, "c l a"), topic("q", al, 6, "c l a"),
		member("ban", al, bo, "ban", 9, "c l a b"), topic("s", bo, 7, "c l b"), topic("u", bo, 11, "c l b"),
	)
	if got := resolves(t, nil, g, nil); len(got) != 0 {
		t.Errorf("of none: %v", got)
	}
	g.is(t, "", "", "")
	g.is(t, "p", "", "p")
	g.is(t, "q", "", "p", "q")
	// The ban is tried ahead of bo's topic, whichever was first.
	g.is(t, "-b ban", "", "-b ban", "s")
	g.is(t, "-b ban", "", "-b ban", "u")
	g.is(t, "-b ban", "", "-b ban", "", "u")
	g.is(t, "-b ban p", "", "-b ban p", "s")
}

func TestNothing(t *testing.T) {
	g := base()
	none := []api.State{{}, {{}}, {{Type: topicType, ID: "no"}}, {{Type: topicType}, {Key: "k", ID: "$"}}}
	for i := range none {
		for j := range none {
			for _, l := range [][]api.State{none[i:i], none[i : i+1], {none[i], none[j]}, {nil, none[i], none[j]}} {
				for _, events := range [][]api.Event{nil, {}, {{}}, g} {
					for _, rejected := range [][]string{nil, {}, {""}, {"", "c", "no"}} {
						if got := resolves(t, l, events, rejected); len(got) != 0 {
							t.Errorf("of %v: %v", l, got)
						}
					}
				}
			}
		}
	}
	if got := resolves(t, []api.State{g.state("")}, nil, nil); len(got) != 0 {
		t.Errorf("without events: %v", got)
	}
	// A state against none at all: all is conflicted, and tried.
	if got := resolves(t, []api.State{g.state(""), nil}, g, nil); !slices.Equal(got, g.state("")) {
		t.Errorf("of one and none: %v", got)
	}
}

// TestWhichEventsCount: of several with one ID the first, of those without one none.
func TestWhichEventsCount(t *testing.T) {
	early, late := topic("p", al, 5, "c l a"), topic("p", al, 7, "c l a")
	q := topic("q", al, 6, "c l a")
	for _, x := range []struct {
		g    graph
		want string
	}{
		{base().with(early, q), "q"}, {base().with(late, q), "p"},
		{base().with(early, late, q), "q"}, {base().with(late, early, q), "p"},
		{base().with(early, q, late), "q"}, {base().with(late, q, early, late), "p"},
	} {
		x.g.is(t, x.want, "", "p", "q")
	}
	// An event without an ID: in a state, as an authority, as what is rejected.
	g := base().with(topic("", al, 9, "c l a"), q)
	unnamed := append(g.state(""), api.Entry{Type: topicType})
	for _, rejected := range [][]string{nil, {""}} {
		for want, states := range map[string][]api.State{"": {unnamed}, "q": {g.state("q"), unnamed}} {
			if got := resolves(t, states, g, rejected); !slices.Equal(got, g.state(want)) {
				t.Errorf("%q: %v", want, got)
			}
		}
	}
	nobody := member("", bo, bo, "join", 1, "c")
	d := topic("d", bo, 9, "c l b")
	d.Auth = []string{"c", "l", ""}
	g = base().with(nobody, topic("p", al, 5, "c l a"), d)
	g.is(t, "-b p", "", "-b p", "-b d")
	d.Auth = []string{"c", "l", "", "no", "b"}
	g = base().with(nobody, topic("p", al, 5, "c l a b"), d)
	g.is(t, "-b d", "", "-b p", "-b d")
}

// TestWhichEntriesCount: of several for a pair the first one whose ID is an event's.
func TestWhichEntriesCount(t *testing.T) {
	g := base().with(topic("p", al, 5, "c l a"), topic("q", al, 6, "c l a"), topic("s", al, 4, "c l a"))
	of := func(ids ...string) api.State {
		s := g.state("")
		for _, id := range ids {
			s = append(s, api.Entry{Type: topicType, ID: id})
		}
		return s
	}
	for _, x := range []struct {
		states []api.State
		want   string
	}{
		{[]api.State{of("no", "p", "q")}, "p"}, {[]api.State{of("", "q", "p")}, "q"}, {[]api.State{of("no", "", "else")}, ""},
		{[]api.State{of("p", "q"), of("s", "q")}, "p"}, {[]api.State{of("no", "q", "p"), of("p", "q")}, "q"},
		{[]api.State{of("s", "q"), of("s", "p")}, "s"}, {[]api.State{of("s", "q"), of("no", "s")}, "s"},
		{[]api.State{of("no"), of("")}, ""}, {[]api.State{of("no"), of("p")}, "p"}, {[]api.State{of(), of("no"), of("p", "q")}, "p"},
	} {
		if got := resolves(t, x.states, g, nil); !slices.Equal(got, g.state(x.want)) {
			t.Errorf("%q: %v", x.want, got)
		}
	}
	// Only the chains of those that count matter: the topic q would bring an event of its own.
	own := event("own", "t", "", al, 7, "c l a")
	g = base().with(own, topic("p", al, 5, "c l a"), topic("q", al, 6, "c l a own"))
	g.is(t, "q own", "", "", "q")
	g.is(t, "p", "", "", "p")
	if got := resolves(t, []api.State{of("p", "q"), of()}, g, nil); !slices.Equal(got, g.state("p")) {
		t.Errorf("%v", got)
	}
}

// TestPairsOfOthers: an entry may tell an event that stands for another pair, or for none.
func TestPairsOfOthers(t *testing.T) {
	keyless := topic("m", al, 8, "c l a")
	keyless.HasKey = false
	g := base().with(topic("p", al, 5, "c l a"), topic("q", al, 6, "c l a"), keyless)
	and := func(s api.State, kind, key, id string) api.State {
		return sorted(append(slices.Clone(s), api.Entry{Type: kind, Key: key, ID: id}))
	}
	s := g.state("")
	for i, x := range []struct {
		states []api.State
		want   api.State
	}{
		// Where all agree it stays; where they don't it is tried, and comes to stand for its own pair.
		{[]api.State{and(s, "t", "k", "p")}, and(s, "t", "k", "p")},
		{[]api.State{and(s, "t", "k", "p"), and(s, "t", "k", "p")}, and(s, "t", "k", "p")},
		{[]api.State{and(s, "t", "k", "p"), s}, g.state("p")},
		{[]api.State{and(s, "t", "k", "q"), g.state("p")}, g.state("q")},
		{[]api.State{and(s, "t", "k", "m")}, and(s, "t", "k", "m")},
		{[]api.State{and(s, "t", "k", "m"), s}, s},
		{[]api.State{g.state("m"), s}, s},
		{[]api.State{g.state("m"), g.state("p")}, g.state("p")},
		// What stands for a pair authorises for it, fit or not: here there are two levels, then no create.
		{[]api.State{and(g.state("p -a"), memberType, al, "l"), and(g.state("-a"), memberType, al, "l")}, and(g.state("-a"), memberType, al, "l")},
		{[]api.State{and(g.state("p -c"), createType, "", "q"), and(g.state("-c"), createType, "", "q")}, and(g.state("-c"), createType, "", "q")},
	} {
		if got := resolves(t, x.states, g, nil); !slices.Equal(got, x.want) {
			t.Errorf("%d: %v; not %v", i, got, x.want)
		}
	}
}

// TestChains: what lies in the chain of one state, and not in those of all, is tried, too.
func TestChains(t *testing.T) {
	far, near := event("far", "t", "1", al, 6, "c l a"), event("near", "t", "2", al, 7, "c l a far")
	keyless := event("m", "t", "3", al, 8, "c l a near")
	keyless.HasKey = false
	g := base().with(far, near, keyless, topic("p", al, 8, "c l a near"), topic("q", al, 9, "c l a m"), topic("s", al, 10, "c l a far"), topic("u", al, 11, "c l a"))
	g.is(t, "p", "", "p")
	g.is(t, "p", "", "p", "p")
	g.is(t, "u far near", "", "p", "u")
	g.is(t, "s near", "", "p", "s")
	g.is(t, "q", "", "p", "q") // both have near, and m is no state event
	g.is(t, "u far near", "", "p", "q", "u")
	g.is(t, "s near", "", "p", "q", "s")
	g.is(t, "p far near", "", "p", "")
	g.is(t, "p near", "", "p near", "p") // both have far
	g.is(t, "near far", "", "near", "")
	g.is(t, "near far u", "", "near", "near far", "u") // what a state has is in its chain only if something of it names that
	g.is(t, "p near", "far", "p near", "")
	g.is(t, "u far", "near", "p", "u")
	// What is named isn't there.
	g = g[:5].with(g[6:]...)
	g.is(t, "u near", "", "p", "u")
	// The entry of all is in the chain of one: it is tried, and stays.
	g = base().with(topic("p", al, 8, "c l a"), topic("q", al, 9, "c l a p"), event("e", "t", "", al, 9, "c l a q p"))
	g.is(t, "p e", "", "p", "p e")
	g.is(t, "q e", "", "q", "q e")
}

// TestPower: which events are power events: they are tried ahead of others, whatever their stamps. Two stand for one pair, the first one by al and later: the second stands where the first is of X and the second isn't, or both are by their senders' levels.
func TestPower(t *testing.T) {
	by := "c a l r b"
	keyless := func(e api.Event) api.Event { e.HasKey = false; return e }
	for i, x := range []struct {
		first, second api.Event
		isFirst       bool // the first stands
	}{
		{member("p", al, bo, "leave", 8, by), member("q", bo, bo, "join", 7, by), false},
		{member("p", al, bo, "leave", 8, by), member("q", bo, bo, "leave", 7, "c a l r"), true}, // which is refused behind it
		{member("p", bo, bo, "leave", 8, by), member("q", bo, bo, "join", 7, by), true},
		{member("p", al, bo, "ban", 8, by), member("q", bo, bo, "join", 7, by), true},
		{event("p", memberType, bo, al, 8, by, "membership", "leave", "membership", "join"), member("q", bo, bo, "join", 7, by), false},
		{event("p", memberType, bo, bo, 8, by, "membership", "join", "membership", "leave"), member("q", bo, bo, "join", 7, by), true},
		{event("p", "t", "", al, 8, by, "membership", "leave"), event("q", "t", "", bo, 7, by), true},
		{rules("p", al, "public", 8, by), rules("q", bo, "public", 7, by), false},
		{event("p", rulesType, "k", al, 8, by), event("q", rulesType, "k", bo, 7, by), true},
		{event("p", levelsType, "k", al, 8, by), event("q", levelsType, "k", bo, 7, by), true},
		{event("p", createType, "k", al, 8, by), event("q", createType, "k", bo, 7, by), true},
		{topic("p", al, 8, by), topic("q", bo, 7, by), true},
		{topic("p", al, 8, by), keyless(topic("q", bo, 9, by)), true},
	} {
		g := base().with(x.first, x.second)
		without := ""
		if x.first.Type == memberType {
			without = "-b "
		}
		if x.first.Type == rulesType && x.first.Key == "" {
			without = "-r "
		}
		want := without + "q"
		if x.isFirst {
			want = without + "p"
		}
		if t.Run(fmt.Sprint(i), func(t *testing.T) { g.is(t, want, "", without+"p", without+"q") }); t.Failed() {
			return
		}
	}
	// New levels: bo may no longer set the topic; what was set by the old ones is tried behind them.
	low := event("low", levelsType, "", al, 9, "c a l", "users", fields(al, 100))
	g := base().with(low, topic("p", bo, 8, "c b l"))
	g.is(t, "-l low", "", "-l low", "p")
	// What has no key, or is rejected, is of X, but is put nowhere.
	g = base().with(keyless(low), topic("p", bo, 8, "c b l"))
	g.is(t, "p", "", "low", "p")
	g = base().with(low, topic("p", bo, 8, "c b l"))
	g.is(t, "-l p", "low", "-l low", "-l p")
}

// TestChainsOfPower: what lies in the chain of a power event is set in its row, ahead of it.
func TestChainsOfPower(t *testing.T) {
	by := "c a l r b"
	early, late := event("p", "t", "", al, 7, by), event("q", "t", "", al, 8, by)
	// By their stamps q is the last, and stands; but where a power event names one of them this one comes first, and the other last.
	for _, x := range []struct {
		named      string
		conflicted bool
		want       string
	}{
		{"", true, "q"}, {"q", true, "p"}, {"p", true, "q"}, {"p q", true, "q"}, {"q", false, "q"}, {"m", true, "p"}, {"n", true, "p"}, {"m", false, "q"},
	} {
		m := api.Event{ID: "m", Type: "m", Room: room, Sender: al, Auth: []string{"q"}, Stamp: 9}
		n := event("n", "t", "n", al, 9, "m")
		g := base().with(early, late, rules("w", al, "public", 9, by+" "+x.named), m, n)
		other := "-r w p"
		if x.conflicted {
			other = "p"
		}
		want := "-r w " + x.want
		if strings.Contains(x.named, "n") && x.conflicted {
			want += " n"
		}
		g.is(t, want, "", "-r w q", other)
	}
	// An event that isn't conflicted is gone through, and so is one that isn't there passed over.
	u := event("u", "u", "", al, 6, by+" q")
	g := base().with(early, late, u, rules("w", al, "public", 9, by+" u"))
	g.is(t, "-r w p u", "", "-r w q u", "p u")
	g = base().with(early, late, rules("w", al, "public", 9, by+" u"))
	g.is(t, "-r w q", "", "-r w q", "p")
}

// TestWords: a member's word hangs on its content's form. A power event names q, so that p is tried last of both, though q is the later one.
func TestWords(t *testing.T) {
	ofKind := func(kind int, v api.Value) api.Value {
		v.Kind, v.Text = kind, "leave"
		return v
	}
	for i, x := range []struct {
		content api.Value
		isPower bool
	}{
		{fields("membership", "leave"), true}, {fields("membership", "ban"), true}, {fields("x", 1, "membership", "ban", "membership", "join"), true},
		{fields("membership", "join"), false}, {fields("membership", "invite"), false}, {fields("membership", ""), false}, {fields("membership", "leave "), false}, {fields("membership", "Ban"), false}, {fields("membership", "kick"), false},
		{fields(), false}, {fields("member", "leave"), false}, {fields("x", fields("membership", "leave")), false}, {fields("membership", 1, "membership", "leave"), false},
		{ofKind(api.Text, fields("membership", "leave")), false}, {ofKind(api.List, fields("membership", "leave")), false}, {ofKind(6, fields("membership", "leave")), false}, {ofKind(-1, fields("membership", "leave")), false},
		{fields("membership", ofKind(api.Int, fields())), false}, {fields("membership", ofKind(api.Object, fields())), false}, {fields("membership", ofKind(0, fields())), false},
	} {
		by := "c a l r b "
		w := event("w", memberType, ca, bo, 9, by+"q")
		own, keyless := w, w
		own.Sender, keyless.HasKey = ca, false
		for j, e := range []api.Event{w, own, keyless} {
			e.Content = x.content
			g := base().with(event("p", "t", "", al, 7, by), event("q", "t", "", al, 8, by), e)
			got := resolves(t, []api.State{g.state("q w"), g.state("p")}, g, nil)
			isPower := slices.Contains(got, api.Entry{Type: "t", ID: "p"})
			if isPower != (x.isPower && j == 0) {
				t.Errorf("%d: %s is a power event: %v", i, brief(e), isPower)
			}
		}
	}
}

// TestRow: X is tried by chains, then levels, then stamps, then IDs; the last stands.
func TestRow(t *testing.T) {
	by := "c a l"
	for _, x := range []struct {
		p, q api.Event
		want string
	}{
		{rules("p", al, "public", 7, by), rules("q", al, "public", 8, by), "q"},
		{rules("p", al, "public", 8, by), rules("q", al, "public", 7, by), "p"},
		{rules("p", al, "public", -8, by), rules("q", al, "public", -7, by), "q"},
		{rules("p", al, "public", math.MinInt64, by), rules("q", al, "public", math.MaxInt64, by), "q"},
		{rules("p", al, "public", 7, by), rules("q", al, "public", 7, by), "q"},
		{rules("é", al, "public", 7, by), rules("p", al, "public", 7, by), "é"},
		{rules("pp", al, "public", 7, by), rules("p", al, "public", 7, by), "pp"},
		{rules("P", al, "public", 7, by), rules("p", al, "public", 7, by), "p"},
		// The greater level comes first, so that the lesser one's stands.
		{rules("p", bo, "public", 7, "c l b"), rules("q", al, "public", 8, by), "p"},
		{rules("p", bo, "public", 9, "c l b"), rules("q", al, "public", 8, by), "p"},
		{rules("q", bo, "public", 8, "c l b"), rules("p", al, "public", 8, by), "q"},
		// By the events' own authorities, not by those of the state: without levels bo's is 0 and al's, by the create, 100.
		{rules("p", bo, "public", 7, "c b"), rules("q", al, "public", 8, by), "p"},
		{rules("p", bo, "public", 7, "c l b"), rules("q", al, "public", 8, "c a"), "p"},
		{rules("p", bo, "public", 7, "c l b"), rules("q", al, "public", 8, "a"), "q"},
		{rules("p", bo, "public", 7, "c b"), rules("q", al, "public", 8, "a"), "q"},
		{rules("p", bo, "public", 7, "c b f"), rules("q", al, "public", 8, "c a l"), "q"},
		{rules("p", bo, "public", 7, "c b l f"), rules("q", al, "public", 8, "c a l"), "p"},
		{rules("p", bo, "public", 7, "c b f l"), rules("q", al, "public", 8, "c a l"), "q"},
		// A chain counts for more than a level.
		{rules("p", bo, "public", 7, "c l b"), rules("q", al, "public", 8, "c a l p"), "q"},
		{rules("p", bo, "public", 9, "c l b"), rules("q", al, "public", 8, "c a l p"), "q"},
		{rules("p", al, "public", 9, by), rules("q", bo, "public", 8, "c l b p"), "q"},
		{rules("p", al, "public", 9, by), rules("q", al, "public", 8, "c a l p"), "q"},
		{rules("p", al, "public", 9, by), rules("q", al, "public", 8, "c a l no"), "p"},
		{rules("p", al, "public", 9, by), rules("q", al, "public", 8, "c a l f"), "p"},
		{rules("p", al, "public", 9, "c a l b"), rules("q", al, "public", 8, "c a l g"), "q"},
	} {
		// The events f and g are in all chains: f are other levels, g names p.
		f := event("f", levelsType, "", al, 0, "c a", "users", fields(al, 100, bo, 101))
		f.Stamp = 100
		n := event("n", "n", "", al, 0, "c a f g b")
		g := base().with(x.p, x.q, f, event("g", "g", "", al, 0, "c a p"), n)
		g.is(t, "-r n "+x.want, "", "-r n "+x.p.ID, "-r n "+x.q.ID)
	}
}

// TestLongRow: the next of X is the best of all that are due, at each step.
func TestLongRow(t *testing.T) {
	by := "c a l "
	// Each leaves its mark if it is tried last of its pair; w is of bo, so that it would be behind those of al.
	g := base().with(
		rules("p1", al, "public", 9, by),
		rules("p2", al, "public", 2, by+"p1"),
		rules("p3", bo, "public", 1, "c b l"),
		rules("p4", al, "public", 3, by+"p3"),
		rules("p5", al, "public", 8, by+"p1"),
	)
	// al's p1, p2, p5 are due ahead of bo's p3, which p4 waits for.
	g.is(t, "-r p4", "", "-r p2", "-r p4", "-r p5")
	g.is(t, "-r p4", "", "-r p1", "-r p2", "-r p3", "-r p4", "-r p5")
	g.is(t, "-r p3", "", "-r p2", "-r p3", "-r p5")
	g.is(t, "-r p5", "", "-r p2", "-r p5")
	g.is(t, "-r p4", "", "-r p4", "-r p3", "-r p1")
	// A row as long as a room, each of an earlier stamp than the one ahead of it.
	g = base()
	before := "l"
	for i := range 300 {
		id := fmt.Sprintf("w%03d", i)
		g = g.with(levels(id, 100, i%100, int64(1000-i), "c a "+before))
		before = id
	}
	got := res.Resolve([]api.State{g.state("-l w299"), g.state("")}, g, nil)
	if !slices.Equal(got, g.state("-l w299")) {
		t.Errorf("%v", got)
	}
}

// TestRings: where events name one another none of X may be due; then the best of all that are left is next.
func TestRings(t *testing.T) {
	by := "c a l "
	self := func(id string, stamp int64) api.Event { return rules(id, al, "public", stamp, by+id) }
	for i, x := range []struct {
		g      graph
		states string
		want   string
	}{
		{base().with(self("p", 7), self("q", 8)), "p q", "q"},
		{base().with(self("p", 8), self("q", 7)), "p q", "p"},
		// One that is in no ring comes first.
		{base().with(self("p", 7), rules("q", al, "public", 8, by)), "p q", "p"},
		{base().with(rules("p", al, "public", 7, by+"q"), rules("q", al, "public", 8, by+"p")), "p q", "q"},
		{base().with(rules("p", al, "public", 8, by+"q"), rules("q", al, "public", 7, by+"p")), "p q", "p"},
		{base().with(rules("p", bo, "public", 7, "c l b q"), rules("q", al, "public", 8, by+"p")), "p q", "p"},
		// s hangs on the ring, but is the best of all; t hangs on s and the ring, and is behind the ring then.
		{base().with(rules("p", al, "public", 7, by+"q"), rules("q", al, "public", 8, by+"p"), rules("s", al, "public", 6, by+"p")), "p q s", "q"},
		{base().with(rules("p", al, "public", 7, by+"q"), rules("q", al, "public", 8, by+"p"), rules("s", al, "public", 6, by+"p"), rules("t", al, "public", 5, by+"s")), "p q s t", "q"},
		{base().with(rules("p", al, "public", 7, by+"q"), rules("q", al, "public", 8, by+"p"), rules("s", al, "public", 9, by+"p")), "p q s", "s"},
		// A ring in what isn't of X hinders none.
		{base().with(event("e", "e", "", al, 3, by+"f"), event("f", "f", "", al, 3, by+"e"), rules("p", al, "public", 7, by+"e"), rules("q", al, "public", 6, by+"f")), "p q", "p"},
	} {
		var states []string
		for _, id := range split(x.states) {
			states = append(states, "-r "+id)
		}
		if t.Run(fmt.Sprint(i), func(t *testing.T) { x.g.is(t, "-r "+x.want, "", states...) }); t.Failed() {
			return
		}
	}
}

// TestAuthorities: an event's authority for a pair is the first that its Auth names, which stands for that pair, and isn't a rejected one; it counts where the state has none.
func TestAuthorities(t *testing.T) {
	in, out := member("in", bo, bo, "join", 5, "c l r"), member("out", bo, bo, "leave", 6, "c l in")
	keyless, keyed := member("m", bo, bo, "join", 5, "c l r"), member("k", bo, ca, "join", 5, "c l r")
	keyless.HasKey = false
	other := event("e", "t", bo, bo, 5, "c l", "membership", "join")
	of := func(auth string) graph {
		g := base().with(in, out, keyless, keyed, other, topic("p", bo, 9, "c l "+auth))
		// Nothing is conflicted but the topic: all that it may name is in the chain of all.
		return g.with(event("n", "n", "", al, 0, "c a l r b in out m k e"), topic("q", al, 1, "c l a"))
	}
	for _, x := range []struct{ auth, rejected, want string }{
		{"in", "", "p"}, {"out", "", "q"}, {"", "", "q"}, {"in out", "", "p"}, {"out in", "", "q"}, {"no in", "", "p"}, {"m out", "", "q"}, {"m in", "", "p"}, {"k", "", "q"}, {"k in", "", "p"}, {"e", "", "q"}, {"e in", "", "p"},
		{"in", "in", "q"}, {"in out", "in", "q"}, {"out in", "out", "p"}, {"out in", "in out", "q"}, {"out in", "no", "q"}, {"out in", "k m", "q"},
		// What lies further down the chain doesn't authorise.
		{"n", "", "q"},
	} {
		of(x.auth).is(t, "-b n "+x.want, x.rejected, "-b n p", "-b n q")
	}
	// Where the state has one that one counts, be it for or against.
	of("out").is(t, "n p", "", "n p", "n q")
	of("out").is(t, "-b in n p", "", "-b in n p", "-b in n q")
	of("in").is(t, "-b out n q", "", "-b out n p", "-b out n q")
	// The levels and the create, too.
	low := levels("low", 100, 0, 5, "c a")
	g := base().with(low, topic("p", bo, 9, "c b low"), topic("s", bo, 10, "c b l"), event("n", "n", "", al, 0, "c a l r b low"), topic("q", al, 1, "c a"), topic("u", bo, 11, "l b"))
	g.is(t, "-l n q", "", "-l n p", "-l n q")
	g.is(t, "n p", "", "n p", "n q")
	g.is(t, "-l low n q", "", "-l low n s", "-l low n q")
	g.is(t, "-l n s", "", "-l n s", "-l n q")
	g.is(t, "-c n s", "", "-c n s", "-c n q")
	g.is(t, "-c n q", "", "-c n u", "-c n q")
	g.is(t, "n u", "", "n u", "n q")
}

// TestRejected: what is rejected is put into no state, but where all agree on it.
func TestRejected(t *testing.T) {
	g := base().with(topic("p", al, 5, "c l a"), topic("q", al, 6, "c l a"), rules("w", al, "private", 7, "c l a"), member("d", ca, ca, "join", 8, "c l r"))
	g.is(t, "p", "q", "p", "q")
	g.is(t, "q", "p", "p", "q")
	g.is(t, "", "p q", "p", "q")
	g.is(t, "", "p", "p", "")
	g.is(t, "p", "p", "p")
	g.is(t, "p", "p", "p", "p")
	g.is(t, "p", "p p no c a l", "p", "p")
	g.is(t, "-r w", "", "-r w", "d")
	g.is(t, "-r d", "w", "-r w", "-r d")
	g.is(t, "-r w", "d", "-r w", "-r w d")
	// A rejected one of X keeps its place in the row: what waits for it waits for no longer.
	g = base().with(rules("p", al, "public", 11, "c l a"), rules("q", al, "public", 8, "c l a p"), rules("s", al, "public", 10, "c l a"))
	g.is(t, "-r q", "p", "-r p", "-r q", "-r s")
	g.is(t, "-r s", "p", "-r p", "-r s")
}

// TestLine: the others are tried by the main line: those of older levels come first, whatever their stamps.
func TestLine(t *testing.T) {
	// l is the oldest, l3 the state's; side and none are by others, and in all chains.
	line := base().with(
		levels("l2", 100, 50, 6, "c a l"), levels("l3", 100, 50, 7, "c a l2"),
		levels("side", 100, 50, 8, "c a l2"), levels("side2", 100, 50, 8, "c a side"), levels("none", 100, 50, 9, "c a"),
		levels("round", 100, 50, 9, "c a back"), levels("back", 100, 50, 9, "c a round"),
		event("n", "n", "", al, 0, "c a l l2 l3 side side2 none round back"),
	)
	for _, x := range []struct {
		p, q string // their levels
		last string // which of both is tried last, be the stamps as they may; or by them
	}{
		{"l3", "l2", "p"}, {"l3", "l", "p"}, {"l2", "l", "p"}, {"l3", "", "p"}, {"l", "", "p"},
		{"l3", "side", "p"}, {"l2", "side", ""}, {"side", "l", "p"}, {"side2", "side", ""}, {"side2", "l2", ""}, {"l3", "side2", "p"}, {"side2", "l", "p"},
		{"l", "none", "p"}, {"none", "", ""}, {"l3", "round", "p"}, {"l", "round", "p"}, {"round", "", ""}, {"round", "back", ""}, {"back", "none", ""},
		{"l3", "l3", ""}, {"l2", "l2", ""}, {"", "", ""}, {"l3 l", "l2", "p"}, {"l l3", "l2", "q"}, {"l2", "l n l3", "p"}, {"no l2", "l", "p"}, {"l2", "no", "p"},
	} {
		for _, stamps := range [][2]int64{{10, 11}, {11, 10}, {10, 10}, {math.MinInt64, math.MaxInt64}, {math.MaxInt64, math.MinInt64}} {
			last := x.last
			if last == "" && stamps[0] > stamps[1] {
				last = "p"
			} else if last == "" {
				last = "q"
			}
			g := line.with(topic("p", al, stamps[0], "c a "+x.p), topic("q", al, stamps[1], "c a "+x.q))
			g.is(t, "-l l3 n "+last, "", "-l l3 n p", "-l l3 n q")
		}
	}
	// A rejected one is no authority, so that the line ends ahead of it.
	g := line.with(topic("p", al, 11, "c a l"), topic("q", al, 10, "c a l2"), topic("s", al, 9, "c a l3"))
	g.is(t, "-l l3 n q", "", "-l l3 n p", "-l l3 n q")
	g.is(t, "-l l3 n p", "l2", "-l l3 n p", "-l l3 n q")
	g.is(t, "-l l3 n s", "l2", "-l l3 n p", "-l l3 n q", "-l l3 n s")
	// Without levels in the state there is no line.
	g.is(t, "-l n p", "", "-l n p", "-l n q", "-l n s")
	g.is(t, "-l l2 n q", "", "-l l2 n p", "-l l2 n q")
	g.is(t, "-l l2 n q", "", "-l l2 n p", "-l l2 n q", "-l l2 n s") // l2 is the authority of s's levels
	g.is(t, "n p", "", "n p", "n q", "n s")
}

// TestLineOfX: the main line begins with the levels that stand behind X.
func TestLineOfX(t *testing.T) {
	g := base().with(
		levels("l2", 100, 49, 6, "c a l"), levels("l3", 100, 48, 7, "c a l2"),
		topic("p", al, 20, "c a l"), topic("q", al, 19, "c a l2"), topic("s", al, 18, "c a l3"),
	)
	g.is(t, "-l l3 s", "", "-l l3 s", "p")
	g.is(t, "-l l3 s", "", "-l l3 s", "-l l2 q", "p")
	g.is(t, "-l l2 q", "", "-l l2 q", "p")
	g.is(t, "-l l2 q", "l3", "-l l3 s", "-l l2 q", "p")
	// A create has no authorities, but may itself stand in the line, where a state says so.
	c2, c3 := event("c2", createType, "", al, 5, "", "room_version", "11"), event("c3", createType, "", al, 6, "", "room_version", "11")
	c2.Prev, c3.Prev = nil, nil
	g = base().with(c2, c3)
	g.is(t, "-c c3", "", "-c c2", "-c c3")
	odd := api.Entry{Type: levelsType, ID: "c2"}
	of := func(ids string) api.State { return sorted(append(g.state(ids), odd)) }
	got := resolves(t, []api.State{of("-c -l c2"), of("-c -l c3")}, g, nil)
	if !slices.Equal(got, of("-c -l c2")) {
		t.Errorf("%v", got)
	}
}

// TestSure: what all agree on is answered, though something else stands for it while the rows are tried.
func TestSure(t *testing.T) {
	low := event("low", levelsType, "", al, 7, "c a l", "users", fields(al, 100), "events", fields(topicType, 70))
	g := base().with(low, topic("p", bo, 8, "c l b"), event("q", "t", "", al, 9, "c low a"), topic("s", al, 6, "c a l"))
	// low is in the chain of one alone: it is tried, and by it bo may set no topic; then l is back.
	g.is(t, "q", "", "p", "q")
	g.is(t, "s q", "", "p", "q s")
	g.is(t, "p q", "low", "p", "q")
	g.is(t, "p q", "", "p q", "q")
	g.is(t, "p", "", "p", "s")
	g.is(t, "-l low q", "", "p", "-l low q")
}

// TestOrder: the answer stands by rising types, then keys, byte by byte, each pair once.
func TestOrder(t *testing.T) {
	words := []string{"", "\x00", "A", "a", "a\x00", "aa", "b", "é", "\xff", "\xff\xff", "ï"}
	g := base()
	s := g.state("")
	for i, kind := range words {
		for j, key := range words {
			id := fmt.Sprintf("w%d.%d", i, j)
			g = g.with(event(id, kind, key, al, 9, "c a l"))
			s = append(s, api.Entry{Type: kind, Key: key, ID: id})
		}
	}
	backwards := slices.Clone(s)
	slices.Reverse(backwards)
	for _, states := range [][]api.State{{s}, {backwards}, {s, backwards}, {backwards, s}, {g.state(""), s}, {append(slices.Clone(s), backwards...)}} {
		if got := resolves(t, states, g, nil); !slices.Equal(got, sorted(s)) {
			t.Fatalf("%v", got)
		}
	}
}

// TestOddEvents: values of no kind, names that are none.
func TestOddEvents(t *testing.T) {
	g := base()
	for i, kind := range []int{-1, 0, 1, 2, 3, 4, 5, 6, math.MaxInt, math.MinInt} {
		v := fields("membership", "leave", "users", fields(al, 100), "join_rule", "public")
		v.Kind, v.Text, v.Int, v.List = kind, "leave", 5, []api.Value{v}
		for j, e := range []api.Event{
			member("", al, bo, "", 9, "c a l r b"), member("", bo, bo, "", 8, "c a l r b"), rules("", al, "", 7, "c a l"), levels("", 0, 0, 9, "c a l"),
			topic("", "", 9, ""), event("", "", "", "", math.MinInt64, "c"), event("", memberType, "", "", math.MaxInt64, "c l a"), event("", createType, "", "", 0, ""),
		} {
			e.ID, e.Content = fmt.Sprintf("o%d.%d", i, j), v
			g = g.with(e)
			e.ID, e.Content = e.ID+"w", fields("membership", v)
			g = g.with(e)
		}
	}
	for i, e := range g[5:] {
		without := map[string]string{memberType + bo: "-b ", rulesType: "-r ", levelsType: "-l ", createType: "-c "}[e.Type+e.Key]
		resolves(t, []api.State{g.state(without + e.ID), g.state("")}, g, nil)
		resolves(t, []api.State{g.state(without + e.ID), g.state(without + g[5+i/2].ID), g.state("")}, g, []string{g[i].ID})
	}
}

// TestMany: a room as long as it may be, in a chain and in two.
func TestMany(t *testing.T) {
	g := base()
	ends := [2]string{"l", "l"}
	for i := range 4000 {
		id := fmt.Sprintf("w%04d", i)
		g = append(g, levels(id, 100, 50, int64(9000-i), "c a "+ends[i%2]))
		ends[i%2] = id
	}
	got := res.Resolve([]api.State{g.state("-l " + ends[0]), g.state("-l " + ends[1])}, g, nil)
	if !slices.Equal(got, g.state("-l "+ends[0])) {
		t.Errorf("%v", got)
	}
	// A long way back to the main line, for many.
	for i := range 2000 {
		g = append(g, event(fmt.Sprintf("t%04d", i), topicType, fmt.Sprint(i), al, 5, "c a "+g[5+2*i].ID))
	}
	var ids []string
	for i := range 2000 {
		ids = append(ids, fmt.Sprintf("t%04d", i))
	}
	got = res.Resolve([]api.State{g.state("-l " + ends[1]), g.state("-l " + ends[1] + " " + strings.Join(ids, " "))}, g, nil)
	if !slices.Equal(got, g.state("-l "+ends[1]+" "+strings.Join(ids, " "))) {
		t.Errorf("%d of 2000 and five", len(got))
	}
}

// TestMemory: an answer's texts and list are its own.
func TestMemory(t *testing.T) {
	g := base().with(topic("p", al, 5, "c l a"), topic("q", al, 6, "c l a"))
	g[5].Type, g[6].Type = strings.Clone(topicType), strings.Clone(topicType)
	states := []api.State{g.state("p"), g.state("q"), g.state("q")}
	given := map[*byte]struct{}{}
	hold := func(texts ...string) {
		for _, s := range texts {
			if s != "" {
				given[unsafe.StringData(s)] = struct{}{}
			}
		}
	}
	for _, e := range g {
		hold(e.ID, e.Type, e.Key)
	}
	for i := range states {
		for _, x := range states[i] {
			hold(x.ID, x.Type, x.Key)
		}
	}
	for n := range 4 {
		got := resolves(t, states[:n], g, nil)
		for _, x := range got {
			for _, s := range []string{x.ID, x.Type, x.Key} {
				if _, shares := given[unsafe.StringData(s)]; s != "" && shares {
					t.Errorf("%q is an argument's", s)
				}
			}
		}
		// What is done with an answer and its spare room changes no argument, and no other answer.
		again := res.Resolve(states[:n], g, nil)
		clear(got[:cap(got)])
		resolves(t, states[:n], g, nil)
		if want, _ := oracleResolve(states[:n], g, nil); !slices.Equal(again, want) {
			t.Errorf("%v", again)
		}
	}
}
