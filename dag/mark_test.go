package dag_test

import (
	"fmt"
	"slices"
	"testing"

	"covey/api"
)

// because takes an event, and asks for its mark, and that it has it for this reason.
func (w watched) because(e api.Event, why string) {
	w.t.Helper()
	mark, _, err := w.take(e)
	want := map[string]int{byAuthRejected: api.Rejected, byAuth: api.Rejected, byAhead: api.Rejected, byNow: api.Soft, byNothing: api.Accepted}
	if mark != want[why] || err != nil {
		w.t.Errorf("%q: %d, %v; %s", e.ID, mark, err, why)
	} else if got := w.o.marked[w.o.at(e.ID)].why; got != why {
		w.t.Errorf("%q: %s; not %s", e.ID, got, why)
	}
}

// TestRejectedByAuth: what it names doesn't allow it, though the state ahead would.
func TestRejectedByAuth(t *testing.T) {
	w := newBase(t)
	for i, auth := range []string{"", "a", "c", "c l", "a l", "c b l", "c a b", "c a r", "c a l r", "c a l b", "c c a", "c a l a"} {
		w.because(message(fmt.Sprint("m", i), al, "b", auth), byAuth)
	}
	for i, auth := range []string{"c a", "a c", "c a l", "l a c"} {
		w.because(message(fmt.Sprint("n", i), al, "b", auth), byNothing)
	}
	// By the create alone only its sender has a level; by no levels at all each type's is 0.
	w.because(member("d", bo, ca, "invite", "b", "c b"), byNothing)
	w.because(member("e", bo, ca, "ban", "b", "c b"), byAuth)
	w.because(member("f", bo, ca, "ban", "b", "c b l"), byNothing)
	// What it names counts, not what that one is the state's of: bo's first join serves a message as well as a later one.
	w.because(member("g", bo, bo, "join", "b", "c l r b"), byNothing)
	w.because(message("h", bo, "g", "c l b"), byNothing)
	w.because(message("i", bo, "b", "c l g"), byNothing)
}

// TestRejectedByAhead: what it names allows it, but the state ahead doesn't.
func TestRejectedByAhead(t *testing.T) {
	w := newBase(t, member("x", al, bo, "ban", "b", "c a l b"))
	w.because(message("m", bo, "x", "c l b"), byAhead)
	w.because(message("n", bo, "m", "c l b"), byAhead)
	w.because(member("d", bo, bo, "join", "x", "c l r"), byAhead)
	w.because(levels("k", 100, 20, "x", "c a l"), byNothing)
	w.because(member("y", al, bo, "leave", "k", "c a k x"), byNothing)
	w.because(member("j", bo, bo, "join", "y", "c k r y"), byNothing)
	w.because(topic("p", bo, "j", "c j"), byAhead)
	w.because(topic("q", bo, "j", "c l j"), byAhead)
	w.because(topic("s", bo, "j", "c k j"), byAuth)
	w.because(message("o", bo, "j", "c l j"), byNothing)
	// All pairs of auth.Select are asked, the state's event for each: the join rules, and the levels of the other one.
	w.because(event("u", rulesType, "", al, "o", "c a k", "join_rule", "private"), byNothing)
	w.because(member("e", ca, ca, "join", "u", "c k r"), byAhead)
	w.because(member("f", al, ca, "ban", "u", "c a k"), byNothing)
	w.because(member("g", al, ca, "invite", "f", "c a k u"), byAhead)
	// Without a state ahead nothing but a create is allowed, nor behind one alone.
	w.because(message("v", al, "", "c a l"), byAhead)
	w.because(message("w", al, "v", "c a l"), byAhead)
	w.because(message("z", al, "c", "c a l"), byAhead)
}

// TestRejectedByOneOfItsAuth: nothing else is amiss with these.
func TestRejectedByOneOfItsAuth(t *testing.T) {
	// Ca's first join was refused by the state ahead of it alone.
	w := newBase(t, member("x", al, ca, "ban", "b", "c a l"))
	w.because(member("j", ca, ca, "join", "x", "c l r"), byAhead)
	w.because(member("u", al, ca, "leave", "x", "c a l x"), byNothing)
	w.because(member("k", ca, ca, "join", "u", "c l r u"), byNothing)
	w.because(message("m", ca, "k", "c l j"), byAuthRejected)
	w.because(message("n", ca, "k", "c l k"), byNothing)
	// Also where it is the first or the last one, and one that serves nothing.
	w.because(message("o", ca, "n", "j c l"), byAuthRejected)
	w.because(message("p", ca, "n", "c l k m"), byAuthRejected)
	w.because(message("q", ca, "n", "m"), byAuthRejected)
	// It must be one of its own: not one of its Prev, nor one of the Auth of one of its Auth that isn't rejected.
	w.because(message("s", ca, "m j", "c l k"), byNothing)
	w.because(message("t", ca, "n m", "c l k"), byNothing)
	// A Soft one authorises.
	w.because(member("y", al, ca, "ban", "t", "c a l k"), byNothing)
	w.because(member("z", ca, ca, "join", "t", "c l r k"), byNow)
	w.because(message("v", ca, "z", "c l z"), byNow)
	w.because(member("d", al, ca, "leave", "z y", "c a l y"), byNothing)
	w.because(message("e", ca, "z", "c l z"), byNow)
	// One that waited for it is, too.
	w.is(message("f", ca, "k", "c l g"), api.Staged, "")
	w.is(member("g", ca, ca, "join", "x", "c l r"), api.Rejected, "f")
	if w.Mark("f") != api.Rejected {
		t.Errorf("f: %d", w.Mark("f"))
	}
}

// TestCreate: what a create must be, and that a room may have several.
func TestCreate(t *testing.T) {
	for _, change := range []func(e *api.Event){
		func(e *api.Event) { e.Prev = []string{"d"} }, func(e *api.Event) { e.Auth = []string{"d"} },
		func(e *api.Event) { e.Sender = ca }, func(e *api.Event) { e.Content = fields("room_version", "10") },
		func(e *api.Event) { e.HasKey = false }, func(e *api.Event) { e.Key = "k" }, func(e *api.Event) { e.Type = "m.room.creates" },
	} {
		d := create()
		d.ID = "d"
		w := newRoom(t, d)
		e := create()
		change(&e)
		w.is(e, api.Rejected, "")
		w.tells("Ends", w.Ends(), "d")
	}
	// A second one is never Soft, since it follows nothing; where it stands against the first one neither is sure.
	w := newBase(t)
	d := create()
	d.ID = "d"
	w.is(d, api.Accepted, "")
	w.tells("Ends", w.Ends(), "b d")
	w.tells("ahead", w.ahead("d"), "")
	w.tells("behind", w.behind("d"), "d")
}

// TestSoft: what the state of now alone refuses.
func TestSoft(t *testing.T) {
	w := newBase(t, member("x", al, bo, "ban", "b", "c a l b"))
	w.is(topic("p", bo, "b", "c l b"), api.Soft, "")
	w.tells("Ends", w.Ends(), "x")
	w.tells("Now", ids(w.Now()), "c r a x l")
	w.tells("behind", w.behind("p"), "c r a b l p")
	w.tells("ahead", w.ahead("p"), "c r a b l")
	// What follows it has it in its state, and may be accepted: it may bring it into the room's.
	w.is(message("m", bo, "p", "c l b"), api.Soft, "")
	w.is(message("n", al, "p", "c a l"), api.Accepted, "")
	w.tells("Ends", w.Ends(), "n x")
	w.tells("Now", ids(w.Now()), "c r a x l")
	w.is(topic("q", al, "n x", "c a l"), api.Accepted, "")
	w.tells("ahead", w.ahead("q"), "c r a x l")
	w.tells("Ends", w.Ends(), "q")
	// A Soft one that is named is no end, so that nothing else is one less.
	w.is(message("o", al, "m", "c a l"), api.Accepted, "")
	w.tells("Ends", w.Ends(), "o q")
	// Rejected goes ahead of Soft, and Now is the one ahead of the event, not behind it.
	w.is(message("y", bo, "b", "c"), api.Rejected, "")
	w.is(member("z", al, al, "leave", "q", "c a l"), api.Accepted, "")
	w.is(message("s", al, "q", "c a l"), api.Soft, "")
	// As what it names allows the message, so would Now, were it that state.
	w.is(member("j", bo, bo, "leave", "b", "c l b"), api.Soft, "")
}

// TestSoftOfLevels: Now is asked for all pairs of the event, not for the sender's alone.
func TestSoftOfLevels(t *testing.T) {
	for _, x := range []struct {
		now  api.Event
		mark int
	}{
		{levels("k", 100, 49, "b", "c a l"), api.Soft}, {levels("k", 100, 50, "b", "c a l"), api.Accepted},
		{event("k", rulesType, "", al, "b", "c a l", "join_rule", "private"), api.Accepted},
	} {
		w := newBase(t, x.now)
		w.is(topic("p", bo, "b", "c l b"), x.mark, "")
	}
	w := newBase(t, event("k", rulesType, "", al, "b", "c a l", "join_rule", "private"))
	w.is(member("d", ca, ca, "join", "b", "c l r"), api.Soft, "")
	w.is(member("e", ca, ca, "join", "k", "c l r"), api.Rejected, "")
	w.is(member("f", al, ca, "invite", "b", "c a l r"), api.Accepted, "")
	w = newBase(t, member("k", al, ca, "ban", "b", "c a l"))
	w.is(member("f", al, ca, "invite", "b", "c a l r"), api.Soft, "")
}

// TestWithoutEnds: a room may have marked events, and no end.
func TestWithoutEnds(t *testing.T) {
	w := newRoom(t)
	bad := create()
	bad.Content = api.Value{}
	w.is(bad, api.Rejected, "")
	w.is(member("a", al, al, "join", "c", "c"), api.Rejected, "")
	w.is(message("m", al, "a", ""), api.Rejected, "")
	w.tells("Ends", w.Ends(), "")
	w.tells("Now", ids(w.Now()), "")
	w.tells("behind", w.behind("a"), "")
	w.tells("Order", w.Order(), "c a m")
}

// TestStates: the states ahead and behind, of all that may be.
func TestStates(t *testing.T) {
	w := newBase(t)
	for _, x := range [][3]string{{"c", "", "c"}, {"a", "c", "c a"}, {"l", "c a", "c a l"}, {"r", "c a l", "c r a l"}, {"b", "c r a l", "c r a b l"}} {
		w.tells("ahead of "+x[0], w.ahead(x[0]), x[1])
		w.tells("behind "+x[0], w.behind(x[0]), x[2])
	}
	// A message is in no state, whatever Key it has.
	m := message("m", al, "b", "c a l")
	m.Type, m.Key = topicType, "k"
	w.is(m, api.Accepted, "")
	w.tells("behind m", w.behind("m"), "c r a b l")
	// One for a pair that is there takes its place; another key is another pair.
	w.is(topic("p", al, "m", "c a l"), api.Accepted, "")
	w.is(topic("q", al, "p", "c a l"), api.Accepted, "")
	w.tells("behind q", w.behind("q"), "c r a b l q")
	w.is(event("k", topicType, "k", al, "q", "c a l"), api.Accepted, "")
	w.tells("behind k", w.behind("k"), "c r a b l q k")
	w.is(event("z", "a", "z", al, "k", "c a l"), api.Accepted, "")
	w.tells("behind z", w.behind("z"), "z c r a b l q k")
	// A rejected one leaves its state as it is, also where there is none for its pair.
	w.is(topic("n", ca, "z", "c l"), api.Rejected, "")
	w.tells("behind n", w.behind("n"), "z c r a b l q k")
	w.is(event("o", "new", "", ca, "n", "c l"), api.Rejected, "")
	w.tells("behind o", w.behind("o"), "z c r a b l q k")
	w.tells("Ends", w.Ends(), "z")
	// What follows it is as if it followed what that one follows; but then there are two ends.
	w.is(topic("s", al, "n", "c a l"), api.Accepted, "")
	w.tells("ahead of s", w.ahead("s"), "z c r a b l q k")
	w.tells("Ends", w.Ends(), "s z")
	// What another event stands for elsewhere doesn't matter.
	w.is(message("t", al, "c", "c a l"), api.Rejected, "")
	w.tells("ahead of t", w.ahead("t"), "c")
	// What is named twice counts once.
	w.is(message("u", al, "s s z s", "c a l"), api.Accepted, "")
	w.tells("Ends", w.Ends(), "u")
	entry := w.Now()[3]
	if entry != (api.Entry{Type: memberType, Key: al, ID: "a"}) {
		t.Errorf("%v", entry)
	}
}

// TestEnds: P18.4.
func TestEnds(t *testing.T) {
	w := newRoom(t)
	for _, e := range base() {
		w.is(e, api.Accepted, "")
		w.tells("Ends", w.Ends(), e.ID)
	}
	for i, id := range []string{"m", "k", "z", "A", "y"} {
		w.is(message(id, al, "b", "c a l"), api.Accepted, "")
		w.tells("Ends", w.Ends(), []string{"m", "k m", "k m z", "A k m z", "A k m y z"}[i])
	}
	w.is(message("n", al, "m k y b", "c a l"), api.Accepted, "")
	w.tells("Ends", w.Ends(), "A n z")
	w.is(message("B", al, "z", "c a l"), api.Accepted, "")
	w.tells("Ends", w.Ends(), "A B n")
	w.is(message("w", al, "A B n no", "c a l"), api.Staged, "")
	w.is(message("v", ca, "A B n", "c l"), api.Rejected, "")
	w.tells("Ends", w.Ends(), "A B n")
	// What its Auth names stays an end.
	w.is(topic("p", al, "A", "c a l"), api.Accepted, "")
	w.is(member("j", ca, ca, "join", "b", "c l r"), api.Accepted, "")
	w.is(message("u", ca, "p j", "c l j"), api.Accepted, "")
	w.is(member("o", ca, ca, "leave", "u", "c l j"), api.Accepted, "")
	w.tells("Ends", w.Ends(), "B n o")
	w.is(message("no", al, "o", "c a l"), api.Accepted, "w")
	w.tells("Ends", w.Ends(), "w")
}

// TestAuthAsEnd: an end that only another one's Auth names stays one.
func TestAuthAsEnd(t *testing.T) {
	w := newBase(t, levels("k", 100, 60, "b", "c a l"))
	w.is(message("m", al, "b", "c a k"), api.Accepted, "")
	w.tells("Ends", w.Ends(), "k m")
}

// TestNow: one state out of those behind several ends, as the document's examples of the whole tell.
func TestNow(t *testing.T) {
	// Both set the topic: the later stamp's stands, whichever comes first, and whatever its depth.
	for _, ofBo := range []int64{6, 4} {
		l := []api.Event{at(5, topic("p", al, "b", "c a l")), at(ofBo, topic("q", bo, "b", "c l b"))}
		want := map[int64]string{6: "c r a b l q", 4: "c r a b l p"}[ofBo]
		for range 2 {
			w := newBase(t, l...)
			w.tells("Ends", w.Ends(), "p q")
			w.tells("Now", ids(w.Now()), want)
			w.is(message("m", al, "q p", "c a l"), api.Accepted, "")
			w.tells("ahead of m", w.ahead("m"), want)
			w.tells("Now", ids(w.Now()), want)
			slices.Reverse(l)
		}
	}
	// Al bans bo, who sets the topic meanwhile: the ban stands, and not that topic.
	l := []api.Event{at(9, member("x", al, bo, "ban", "b", "c a l b")), at(5, topic("q", bo, "b", "c l b"))}
	w := newBase(t, l...)
	w.tells("Now", ids(w.Now()), "c r a x l")
	if w.Mark("q") != api.Soft {
		t.Errorf("q: %d", w.Mark("q"))
	}
	slices.Reverse(l)
	w = newBase(t, l...)
	w.tells("Ends", w.Ends(), "q x")
	w.tells("Now", ids(w.Now()), "c r a x l")
	// What follows the topic alone still has it; what follows both hasn't.
	w.is(message("m", al, "q", "c a l"), api.Accepted, "")
	w.is(message("n", al, "m x", "c a l"), api.Accepted, "")
	w.tells("behind m", w.behind("m"), "c r a b l q")
	w.tells("behind n", w.behind("n"), "c r a x l")
	w.is(message("o", bo, "m", "c l b"), api.Soft, "")
	w.is(message("s", bo, "n", "c l b"), api.Rejected, "")
}

// TestLong: rooms as great as may be, of one line, of one end beside another one, and of many users.
func TestLong(t *testing.T) {
	const n = 4096 - 5
	for what, next := range map[string]func(i int) api.Event{
		"a line":       func(i int) api.Event { return topic(fmt.Sprint("p", i), al, fmt.Sprint("p", i-1), "c a l") },
		"side by side": func(i int) api.Event { return message(fmt.Sprint("p", i), al, "b", "c a l") },
		"many pairs": func(i int) api.Event {
			return event(fmt.Sprint("p", i), topicType, fmt.Sprintf("%06d", i), al, fmt.Sprint("p", i-1), "c a l")
		},
	} {
		w := newBase(t)
		for i := range n {
			e := next(i)
			if i == 0 {
				e.Prev = []string{"b"}
			}
			if mark, _, err := w.Take(e); mark != api.Accepted || err != nil {
				t.Fatalf("%s: %d: %d, %v", what, i, mark, err)
			}
		}
		ends, now, pairs := 1, 6, len(w.ahead(fmt.Sprint("p", n-1)))
		switch what {
		case "side by side":
			ends, now = n, 5
		case "many pairs":
			now = n + 5
		}
		if len(w.Ends()) != ends || len(w.Now()) != now || what == "many pairs" && pairs != now-1 || len(w.Order()) != 4096 {
			t.Errorf("%s: %d ends, %d pairs, %d ahead of the last one", what, len(w.Ends()), len(w.Now()), pairs)
		}
	}
}

// nested is a value of lists and objects so deep in one another.
func nested(depth int) api.Value {
	v := api.Value{Kind: api.Text, Text: "in"}
	for i := range depth {
		if i%2 == 0 {
			v = api.Value{Kind: api.List, List: []api.Value{v}}
		} else {
			v = fields("a", v)
		}
	}
	return v
}

// TestAnyValue: an event is answered as it was taken, also with what its kinds don't use.
func TestAnyValue(t *testing.T) {
	w := newBase(t)
	odd := api.Value{Kind: 9, Bool: true, Int: 3, Text: "t", List: []api.Value{{Kind: -1, Text: "u"}, {}}, Fields: []api.Field{{Name: "n"}, {Name: "n", Value: fields("m", 1)}}}
	for i, v := range []api.Value{odd, {}, {Kind: api.Object}, {Kind: api.Object, List: []api.Value{odd, odd}}, {Kind: api.Text, Text: "t", Fields: fields("a", odd).Fields}} {
		e := message(fmt.Sprint("m", i), al, "b", "c a l")
		e.Content, e.Raw = v, fields("a", v, "b", v)
		e.Depth, e.Stamp, e.Key = -4, -3, "key"
		w.is(e, api.Accepted, "")
	}
	e := message("n", al, "b", "c a l")
	e.Prev = append(make([]string, 0, 9), e.Prev...)
	e.Content, e.Raw = nested(1<<16-2), nested(1<<16-2)
	w.is(e, api.Accepted, "")
}
