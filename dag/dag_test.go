package dag_test

import (
	"fmt"
	"math"
	"reflect"
	"slices"
	"strings"
	"testing"

	"covey/api"
	"covey/dag"
)

const (
	createType  = "m.room.create"
	memberType  = "m.room.member"
	levelsType  = "m.room.power_levels"
	rulesType   = "m.room.join_rules"
	topicType   = "m.room.topic"
	messageType = "m.room.message"
)

// Some users, and the room of most tests.
const (
	al, bo, ca = "@al:x", "@bo:x", "@ca:y"
	room       = "!r:x"
)

// fields is an object of names and values, by turns: api.Value, int or string.
func fields(l ...any) api.Value {
	v := api.Value{Kind: api.Object}
	for i := 0; i < len(l); i += 2 {
		f := api.Field{Name: l[i].(string)}
		switch w := l[i+1].(type) {
		case api.Value:
			f.Value = w
		case int:
			f.Value = api.Value{Kind: api.Int, Int: int64(w)}
		case string:
			f.Value = api.Value{Kind: api.Text, Text: w}
		}
		v.Fields = append(v.Fields, f)
	}
	return v
}

// event is a state event; prev and auth are IDs.
func event(id, kind, key, sender, prev, auth string, content ...any) api.Event {
	return api.Event{ID: id, Type: kind, Room: room, Sender: sender, HasKey: true, Key: key, Prev: strings.Fields(prev), Auth: strings.Fields(auth), Content: fields(content...), Raw: fields("raw", id)}
}

func member(id, sender, user, membership, prev, auth string) api.Event {
	return event(id, memberType, user, sender, prev, auth, "membership", membership)
}

func topic(id, sender, prev, auth string) api.Event {
	return event(id, topicType, "", sender, prev, auth)
}

func message(id, sender, prev, auth string) api.Event {
	e := event(id, messageType, "", sender, prev, auth)
	e.HasKey = false
	return e
}

// levels are al's power_levels by which al and bo have these levels.
func levels(id string, ofAl, ofBo int, prev, auth string) api.Event {
	return event(id, levelsType, "", al, prev, auth, "users", fields(al, ofAl, bo, ofBo))
}

// at is an event of a stamp.
func at(stamp int64, e api.Event) api.Event {
	e.Stamp = stamp
	return e
}

// deep is an event of a depth.
func deep(depth int64, e api.Event) api.Event {
	e.Depth = depth
	return e
}

func create() api.Event { return event("c", createType, "", al, "", "", "room_version", "11") }

// base is a public room of al, which bo has joined; al's level is 100, bo's 50.
func base() []api.Event {
	return []api.Event{
		create(), member("a", al, al, "join", "c", "c"), levels("l", 100, 50, "a", "c a"),
		event("r", rulesType, "", al, "l", "c a l", "join_rule", "public"), member("b", bo, bo, "join", "r", "c l r"),
	}
}

// watched is a room beside an oracle.
type watched struct {
	*dag.Room
	t *testing.T
	o *oracle
}

func newRoom(t *testing.T, events ...api.Event) watched {
	t.Helper()
	r, err := dag.New(room)
	if r == nil || err != nil {
		t.Fatalf("New: %v, %v", r, err)
	}
	w := watched{r, t, newOracle(room)}
	for _, e := range events {
		w.take(e)
	}
	return w
}

// newBase is a room with the base.
func newBase(t *testing.T, events ...api.Event) watched {
	t.Helper()
	return newRoom(t, append(base(), events...)...)
}

// take takes an event, and holds the answer and all that the room tells behind it against the oracle.
func (w watched) take(e api.Event) (int, []string, error) {
	w.t.Helper()
	mark, more, err := w.Take(e)
	wantMark, wantMore, wantErr := w.o.take(e)
	if mark != wantMark || !slices.Equal(more, wantMore) || err != wantErr {
		w.t.Fatalf("Take of %+v: %d, %q, %v; not %d, %q, %v", e, mark, more, err, wantMark, wantMore, wantErr)
	}
	w.check()
	return mark, more, err
}

// check holds all that the room tells against the oracle.
func (w watched) check() {
	w.t.Helper()
	if w.Name() != w.o.room || w.Top() != w.o.top() {
		w.t.Fatalf("Name: %q; Top: %d, not %d", w.Name(), w.Top(), w.o.top())
	}
	for _, x := range []struct {
		what      string
		got, want []string
	}{{"Ends", w.Ends(), w.o.ends()}, {"Missing", w.Missing(), w.o.missing()}, {"Order", w.Order(), w.o.order()}, {"Staged", w.Staged(), w.o.staged()}} {
		if !slices.Equal(x.got, x.want) {
			w.t.Fatalf("%s: %q; not %q", x.what, x.got, x.want)
		}
	}
	if !slices.Equal(w.Now(), w.o.now()) {
		w.t.Fatalf("Now: %v; not %v", w.Now(), w.o.now())
	}
	for _, e := range w.o.taken {
		w.checkEvent(e)
	}
	for _, id := range append(w.o.missing(), "", "none", "$", w.o.room) {
		w.checkNone(id)
	}
}

// checkEvent holds what the room tells of a known event against the oracle.
func (w watched) checkEvent(e api.Event) {
	w.t.Helper()
	if got, err := w.Event(e.ID); err != nil || !same(got, e) {
		w.t.Fatalf("Event: %+v, %v; not %+v", got, err, e)
	}
	if got := w.Mark(e.ID); got != w.o.mark(e.ID) {
		w.t.Fatalf("Mark of %q: %d; not %d", e.ID, got, w.o.mark(e.ID))
	}
	i := w.o.at(e.ID)
	if i < 0 {
		w.checkNoStates(e.ID)
		return
	}
	m := w.o.marked[i]
	if got, err := w.Before(e.ID); err != nil || !slices.Equal(got, m.ahead) {
		w.t.Fatalf("Before of %q: %v, %v; not %v", e.ID, got, err, m.ahead)
	}
	if got, err := w.After(e.ID); err != nil || !slices.Equal(got, m.behind) {
		w.t.Fatalf("After of %q: %v, %v; not %v", e.ID, got, err, m.behind)
	}
}

// checkNone asks for what is told of an event that isn't known.
func (w watched) checkNone(id string) {
	w.t.Helper()
	if e, err := w.Event(id); err != api.ErrNone || !reflect.DeepEqual(e, api.Event{}) {
		w.t.Fatalf("Event of %q: %+v, %v", id, e, err)
	}
	if mark := w.Mark(id); mark != api.Unknown {
		w.t.Fatalf("Mark of %q: %d", id, mark)
	}
	w.checkNoStates(id)
}

func (w watched) checkNoStates(id string) {
	w.t.Helper()
	if s, err := w.Before(id); err != api.ErrNone || len(s) != 0 {
		w.t.Fatalf("Before of %q: %v, %v", id, s, err)
	}
	if s, err := w.After(id); err != api.ErrNone || len(s) != 0 {
		w.t.Fatalf("After of %q: %v, %v", id, s, err)
	}
}

// is takes an event, and asks for its mark and the IDs of those that are marked behind it.
func (w watched) is(e api.Event, mark int, more string) {
	w.t.Helper()
	got, others, err := w.take(e)
	if got != mark || !slices.Equal(others, strings.Fields(more)) || err != nil {
		w.t.Errorf("Take of %q: %d, %q, %v; not %d, %q", e.ID, got, others, err, mark, more)
	}
}

// refuses asks for an error.
func (w watched) refuses(e api.Event, want error) {
	w.t.Helper()
	if mark, more, err := w.take(e); mark != 0 || len(more) != 0 || err != want {
		w.t.Errorf("Take of %+v: %d, %q, %v; not %v", e, mark, more, err, want)
	}
}

// tells asks for the IDs of a list.
func (w watched) tells(what string, got []string, want string) {
	w.t.Helper()
	if !slices.Equal(got, strings.Fields(want)) {
		w.t.Errorf("%s: %q; not %q", what, got, want)
	}
}

// ids are the IDs of a state, in its order.
func ids(s api.State) []string {
	var l []string
	for _, x := range s {
		l = append(l, x.ID)
	}
	return l
}

// ahead and behind are the IDs of the state ahead of an event, and of the one behind it.
func (w watched) ahead(id string) []string {
	s, _ := w.Before(id)
	return ids(s)
}

func (w watched) behind(id string) []string {
	s, _ := w.After(id)
	return ids(s)
}

// same tells whether two events are alike; a nil list and an empty one are.
func same(a, b api.Event) bool {
	texts := func(e *api.Event) [2][]string {
		l := [2][]string{e.Prev, e.Auth}
		e.Prev, e.Auth = nil, nil
		return l
	}
	values := func(e *api.Event) [2]api.Value {
		l := [2]api.Value{e.Content, e.Raw}
		e.Content, e.Raw = api.Value{}, api.Value{}
		return l
	}
	at, bt, av, bv := texts(&a), texts(&b), values(&a), values(&b)
	return slices.Equal(at[0], bt[0]) && slices.Equal(at[1], bt[1]) && sameValue(av[0], bv[0]) && sameValue(av[1], bv[1]) && reflect.DeepEqual(a, b)
}

func sameValue(a, b api.Value) bool {
	return a.Kind == b.Kind && a.Bool == b.Bool && a.Int == b.Int && a.Text == b.Text && slices.EqualFunc(a.List, b.List, sameValue) &&
		slices.EqualFunc(a.Fields, b.Fields, func(a, b api.Field) bool { return a.Name == b.Name && sameValue(a.Value, b.Value) })
}

// TestExamples are the chapter's.
func TestExamples(t *testing.T) {
	w := newRoom(t)
	w.is(create(), api.Accepted, "")
	w.is(deep(1, member("a", al, al, "join", "c", "c")), api.Accepted, "")
	w.tells("Ends", w.Ends(), "a")
	if w.Top() != 1 {
		t.Errorf("Top: %d", w.Top())
	}
	w.is(message("n", al, "m", "c a"), api.Staged, "")
	w.tells("Missing", w.Missing(), "m")
	w.is(message("m", al, "a", "c a"), api.Accepted, "n")
	w.tells("Staged", w.Staged(), "")
	w.refuses(create(), api.ErrKnown)
	other := create()
	other.ID, other.Room = "d", "!q:x"
	w.refuses(other, api.ErrForm)
	w.is(message("d", bo, "n", "c"), api.Rejected, "")
	w.tells("Ends", w.Ends(), "n")
	w.tells("ahead of it", w.ahead("d"), "c a")
}

// TestNew is P18.1.
func TestNew(t *testing.T) {
	for _, name := range []string{"!r:x", "!R_-9:a.example", "!" + strings.Repeat("a", 32) + ":x", "!a:" + strings.Repeat("x", 64)} {
		r, err := dag.New(name)
		if r == nil || err != nil || r.Name() != name {
			t.Fatalf("%q: %v", name, err)
		}
		w := watched{r, t, newOracle(name)}
		w.check()
		if w.Top() != 0 || len(w.Now()) != 0 || len(w.Ends()) != 0 || len(w.Missing()) != 0 || len(w.Order()) != 0 || len(w.Staged()) != 0 {
			t.Errorf("%q: not without events", name)
		}
		e := create()
		if name != room {
			w.refuses(e, api.ErrForm)
		}
		e.Room, e.Sender = name, "@al:"+name[strings.Index(name, ":")+1:]
		w.is(e, api.Accepted, "")
	}
	for _, name := range []string{"", "!", "r", "!r", "!r:", "!:x", "@r:x", "$r:x", "!r:x ", " !r:x", "!r.:x", "!r:X", "!r:x:x", "!r:x..y", "!é:x", "!r:\xff", "!r:x\x00", "!" + strings.Repeat("a", 33) + ":x", "!a:" + strings.Repeat("x", 65), strings.Repeat("!r:x", 1000)} {
		if r, err := dag.New(name); r != nil || err != api.ErrSyntax {
			t.Errorf("%q: %v, %v", name, r, err)
		}
	}
}

// TestRoomsAreApart: what one room takes another one doesn't know.
func TestRoomsAreApart(t *testing.T) {
	v, w := newBase(t), newRoom(t)
	w.is(create(), api.Accepted, "")
	v.is(topic("p", al, "b", "c a l"), api.Accepted, "")
	v.check()
	w.check()
}

// TestForm: what is no event of the room.
func TestForm(t *testing.T) {
	w := newBase(t)
	w.is(message("w", al, "no", "c a"), api.Staged, "")
	bad := map[string]func(e *api.Event){
		"no ID":             func(e *api.Event) { e.ID = "" },
		"no ID, named":      func(e *api.Event) { e.ID, e.Prev = "", []string{""} },
		"no room":           func(e *api.Event) { e.Room = "" },
		"another room":      func(e *api.Event) { e.Room = "!q:x" },
		"more than a room":  func(e *api.Event) { e.Room += "y" },
		"itself ahead":      func(e *api.Event) { e.Prev = []string{"m"} },
		"itself last ahead": func(e *api.Event) { e.Prev = []string{"b", "no", "m"} },
		"itself by itself":  func(e *api.Event) { e.Auth = []string{"m"} },
		"itself among auth": func(e *api.Event) { e.Auth = []string{"c", "m", "a"} },
	}
	for what, mar := range bad {
		e := message("m", al, "b", "c a l")
		mar(&e)
		if _, _, err := w.take(e); err != api.ErrForm {
			t.Errorf("%s: %v", what, err)
		}
	}
	w.is(message("m", al, "b", "c a l"), api.Accepted, "")
	// It goes ahead of what is known.
	for _, id := range []string{"c", "m", "w"} {
		for _, e := range []api.Event{message(id, al, "b "+id, ""), message(id, al, "b", "c "+id)} {
			w.refuses(e, api.ErrForm)
		}
		e, _ := w.Event(id)
		e.Room = "!q:x"
		w.refuses(e, api.ErrForm)
	}
	// It is no matter what else an event has: names may be any texts, lists of any length.
	w.is(message("\xff\x00 é", al, "m", "c a l"), api.Accepted, "")
	w.is(message("z", al, "\xff\x00 no", "c a l"), api.Staged, "")
	long := message("y", al, strings.Repeat("b ", 5000), "c a l")
	w.is(long, api.Accepted, "")
	w.is(api.Event{ID: "x", Room: room}, api.Rejected, "")
	// The empty name is none that an event can have.
	e := message("v", al, "b", "c a l")
	e.Auth = append(e.Auth, "")
	w.is(e, api.Staged, "")
	w.tells("Missing", w.Missing()[1:], "no \xff\x00")
}

// TestKnown: an event of any mark is known, whatever comes with its ID.
func TestKnown(t *testing.T) {
	w := newBase(t, message("s", al, "no", ""), message("j", ca, "b", "c"), member("x", al, bo, "ban", "b", "c a l b"), message("o", bo, "b", "c l b"))
	for id, mark := range map[string]int{"c": api.Accepted, "s": api.Staged, "j": api.Rejected, "o": api.Soft} {
		if w.Mark(id) != mark {
			t.Errorf("%q: %d", id, w.Mark(id))
		}
		e, _ := w.Event(id)
		w.refuses(e, api.ErrKnown)
		w.refuses(message(id, al, "b", "a l"), api.ErrKnown)
		w.refuses(message(id, al, "nowhere", ""), api.ErrKnown)
		w.refuses(api.Event{ID: id, Room: room}, api.ErrKnown)
	}
}

// fill takes events that are refused at once, which is done soonest, up to a number of events.
func (w watched) fill(n int) {
	w.t.Helper()
	for i := len(w.o.taken); i < n; i++ {
		e := api.Event{ID: fmt.Sprint("f", i), Room: room}
		mark, more, err := w.Take(e)
		if mark != api.Rejected || len(more) != 0 || err != nil {
			w.t.Fatalf("%d: %d, %q, %v", i, mark, more, err)
		}
		w.o.taken = append(w.o.taken, e)
		w.o.marked = append(w.o.marked, told{e: e, mark: api.Rejected})
	}
}

// TestFull: a room has at most 4096 events, those that are Staged among them.
func TestFull(t *testing.T) {
	for _, staged := range []bool{false, true} {
		w := newBase(t)
		if staged {
			w.is(message("s", al, "m", "c a l"), api.Staged, "")
		}
		w.fill(4095)
		w.is(message("m", al, "b", "c a l"), api.Accepted, map[bool]string{true: "s"}[staged])
		n := message("n", al, "m", "c a l")
		w.refuses(n, api.ErrFull)
		w.refuses(message("o", al, "no", ""), api.ErrFull)
		w.refuses(message("c", al, "m", ""), api.ErrKnown)
		w.refuses(message("n", al, "n", ""), api.ErrForm)
		w.refuses(message("m", al, "m", ""), api.ErrForm)
		w.refuses(n, api.ErrFull)
		if got := len(w.Order()) + len(w.Staged()); got != 4096 {
			t.Errorf("%d events", got)
		}
	}
	// The last one may be Staged, and stays so.
	w := newBase(t)
	w.fill(4095)
	w.is(message("s", al, "m", "c a l"), api.Staged, "")
	w.refuses(message("m", al, "b", "c a l"), api.ErrFull)
	w.tells("Staged", w.Staged(), "s")
	w.tells("Missing", w.Missing(), "m")
}

// TestStagedFull: at most 64 events wait.
func TestStagedFull(t *testing.T) {
	w := newBase(t)
	for i := range 62 {
		w.is(message(fmt.Sprint("s", i), al, fmt.Sprint("p", i), "c a l"), api.Staged, "")
	}
	w.is(message("q", al, "b", "c a l m"), api.Staged, "")
	w.is(message("t", al, "m", "c a l"), api.Staged, "")
	for _, e := range []api.Event{message("u", al, "m", ""), message("u", al, "s0", ""), message("u", al, "b", "s0"), message("u", al, "b", "no")} {
		w.refuses(e, api.ErrFull)
	}
	w.refuses(message("s0", al, "m", ""), api.ErrKnown)
	w.refuses(message("u", al, "u", ""), api.ErrForm)
	// What waits for nothing is taken; so is, once there is room, what waits.
	w.is(message("o", al, "b", "c a l"), api.Accepted, "")
	w.is(message("p0", al, "b", "c a l"), api.Accepted, "s0")
	w.is(message("u", al, "s1", "c a l"), api.Staged, "")
	w.refuses(message("v", al, "s2", "c a l"), api.ErrFull)
	w.is(message("p1", al, "b", "c a l"), api.Accepted, "s1 u")
	w.is(message("m", al, "b", "c a l"), api.Accepted, "q t")
	if n := len(w.Staged()); n != 60 {
		t.Errorf("%d events wait", n)
	}
}

// TestStaged: which events wait, and for which.
func TestStaged(t *testing.T) {
	w := newBase(t)
	w.is(message("p", al, "b x", "c a l"), api.Staged, "")
	w.is(message("q", al, "b", "c a l y"), api.Staged, "")
	w.is(message("s", al, "x b z", "y c w"), api.Staged, "")
	w.is(message("o", al, "p", "c a l"), api.Staged, "")
	w.is(message("n", al, "b", "c q"), api.Staged, "")
	w.tells("Missing", w.Missing(), "w x y z")
	w.tells("Staged", w.Staged(), "p q s o n")
	w.tells("Order", w.Order(), "c a l r b")
	// One that is named may come to wait itself: then it isn't missing any more.
	w.is(message("z", al, "b v", "c a l"), api.Staged, "")
	w.tells("Missing", w.Missing(), "v w x y")
	w.is(message("x", al, "b", "c a l"), api.Accepted, "p o")
	w.is(message("y", al, "b", "c a l"), api.Accepted, "q n")
	if w.Mark("q") != api.Rejected || w.Mark("n") != api.Rejected {
		t.Errorf("q, n: %d, %d", w.Mark("q"), w.Mark("n"))
	}
	w.is(message("w", al, "no", ""), api.Staged, "")
	w.is(message("v", al, "b", "c a l"), api.Accepted, "z")
	w.tells("Staged", w.Staged(), "s w")
	w.tells("Missing", w.Missing(), "no")
	w.tells("Order", w.Order(), "c a l r b x p o y q n v z")
	// Rejected is a mark, too.
	w.is(message("no", "@no:x", "b", "c"), api.Rejected, "w s")
}

// TestStagedOrder: it is always the first of those whose turn it is, in the order in which they were taken.
func TestStagedOrder(t *testing.T) {
	w := newBase(t)
	for _, x := range [][2]string{{"e", "d"}, {"d", "m"}, {"f", "m"}, {"g", "e"}, {"h", "f"}, {"i", "m h"}, {"k", "no"}} {
		w.is(message(x[0], al, x[1], "c a l"), api.Staged, "")
	}
	w.is(message("m", al, "b", "c a l"), api.Accepted, "d e f g h i")
	w.tells("Order", w.Order(), "c a l r b m d e f g h i")
	// A chain that was taken last first.
	w = newBase(t)
	for i := 50; i > 0; i-- {
		w.is(topic(fmt.Sprint("p", i), al, fmt.Sprint("p", i-1), "c a l"), api.Staged, "")
	}
	var want []string
	for i := range 50 {
		want = append(want, fmt.Sprint("p", i+1))
	}
	w.is(topic("p0", al, "b", "c a l"), api.Accepted, strings.Join(want, " "))
	// The mark of one may hang on that of another one ahead of it: the ban is marked first here, and last there.
	for _, isFirst := range []bool{true, false} {
		w = newBase(t)
		l := []api.Event{member("x", al, bo, "ban", "m", "c a l b"), message("o", bo, "m", "c l b")}
		if !isFirst {
			slices.Reverse(l)
		}
		w.is(l[0], api.Staged, "")
		w.is(l[1], api.Staged, "")
		w.is(message("m", al, "b", "c a l"), api.Accepted, l[0].ID+" "+l[1].ID)
		if got := w.Mark("o"); got != map[bool]int{true: api.Soft, false: api.Accepted}[isFirst] {
			t.Errorf("o: %d", got)
		}
	}
}

// TestRing: events that name one another wait for good, and so do those that name them.
func TestRing(t *testing.T) {
	w := newBase(t)
	w.is(message("m", al, "n", "c a l"), api.Staged, "")
	w.is(message("o", al, "m", "c a l"), api.Staged, "")
	w.is(message("n", al, "b", "c o"), api.Staged, "")
	w.is(message("p", al, "b n", "c a l"), api.Staged, "")
	w.tells("Missing", w.Missing(), "")
	w.tells("Staged", w.Staged(), "m o n p")
	w.is(message("q", al, "b", "c a l"), api.Accepted, "")
	w.tells("Staged", w.Staged(), "m o n p")
}

// TestTop: the greatest depth, of whatever mark but Staged.
func TestTop(t *testing.T) {
	w := newRoom(t)
	is := func(e api.Event, mark int, top int64) {
		t.Helper()
		w.is(e, mark, "")
		if w.Top() != top {
			t.Errorf("%q: %d; not %d", e.ID, w.Top(), top)
		}
	}
	is(deep(9, message("s", al, "no", "")), api.Staged, 0)
	is(deep(math.MinInt64, create()), api.Accepted, math.MinInt64)
	is(deep(-5, member("a", al, al, "join", "c", "c")), api.Accepted, -5)
	is(deep(-7, topic("p", al, "a", "c a")), api.Accepted, -5)
	is(deep(3, message("j", ca, "p", "c")), api.Rejected, 3)
	is(deep(math.MaxInt64, message("t", al, "s", "")), api.Staged, 3)
	w = newBase(t, member("x", al, bo, "ban", "b", "c a l b"))
	is(deep(4, message("o", bo, "b", "c l b")), api.Soft, 4)
	is(deep(math.MaxInt64, topic("p", al, "x", "c a l")), api.Accepted, math.MaxInt64)
	is(topic("q", al, "p", "c a l"), api.Accepted, math.MaxInt64)
}
