package make_test

import (
	"fmt"
	"math/rand"
	"slices"
	"strings"
	"testing"

	"covey/api"
	"covey/auth"
	"covey/dag"
	"covey/event"
	"covey/make"
)

// chance does things by chance.
type chance struct{ *rand.Rand }

// pick is one of some.
func pick[T any](c chance, some ...T) T { return some[c.Intn(len(some))] }

// seldom is true once in so many times.
func (c chance) seldom(n int) bool { return c.Intn(n) == 0 }

// deed is what some user may want to do.
func (c chance) deed() api.Event {
	sender := pick(c, al, al, al, bo, bo, ca)
	switch c.Intn(13) {
	case 0, 1, 2, 3:
		user := pick(c, al, bo, bo, ca, ca)
		if c.seldom(2) {
			user = sender
		}
		return asked(memberType, user, sender, "membership", pick(c, "join", "join", "join", "invite", "leave", "leave", "ban", "knock"))
	case 4, 5:
		return asked(levelsType, "", sender, "users", fields(al, pick(c, 100, 100, 100, 60), bo, pick(c, 0, 40, 50, 60, 100)), "invite", pick(c, 0, 50))
	case 6:
		return asked(rulesType, "", sender, "join_rule", pick(c, "public", "public", "invite", "private"))
	case 7:
		return asked(createType, pick(c, "", "k"), sender, "room_version", "11")
	case 8, 9, 10:
		return message(sender)
	}
	return asked(topicType, pick(c, "", "", "", "k", sender, al), sender)
}

// known are the events that Now has for the pairs of one.
func known(r *dag.Room, e api.Event) []api.Event {
	var l []api.Event
	for _, p := range auth.Select(e) {
		for _, x := range r.Now() {
			if x.Type == p.Type && x.Key == p.Key {
				one, _ := r.Event(x.ID)
				l = append(l, one)
			}
		}
	}
	return l
}

// sealedBy is a draft sealed by its sender's server.
func sealedBy(t *testing.T, v api.Value) api.Event {
	t.Helper()
	_, server, _ := strings.Cut(field(t, v, "sender").Text, ":")
	e, err := make.Seal(v, config(server))
	if err != nil {
		t.Fatalf("Seal of %s: %v", text(v), err)
	}
	return e
}

// replica is a room as one of several servers has it.
type replica struct {
	*dag.Room
	due []api.Event // what the others sent, and it hasn't taken yet
}

// next drafts a deed, seals it, and asks for its mark: P19.4.
func (r *replica) next(t *testing.T, asked api.Event, seen map[string]int) api.Event {
	t.Helper()
	v := drafts(t, r.Room, asked)
	e := sealedBy(t, v)
	ends, allows := len(r.Ends()), auth.Check(e, known(r.Room, e)) == 0
	mark, more, err := r.Take(e)
	if err != nil || len(more) > 0 || (mark == api.Accepted) != allows {
		t.Fatalf("%s: %d, %v; Now allows it: %v", text(e.Raw), mark, err, allows)
	}
	seen[fmt.Sprintf("mark %d", mark)]++
	seen["of type "+e.Type]++
	if ends > 1 {
		seen[fmt.Sprintf("several ends, mark %d", mark)]++
	}
	if mark == api.Accepted && !slices.Equal(r.Ends(), []string{e.ID}) {
		t.Fatalf("%s: the ends are %q", text(e.Raw), r.Ends())
	}
	return e
}

// catchUp takes some of what the others sent, not always in that order.
func (r *replica) catchUp(t *testing.T, c chance, n int, seen map[string]int) {
	t.Helper()
	n = min(n, len(r.due))
	if c.seldom(2) {
		c.Shuffle(min(2*n, len(r.due)), func(i, j int) { r.due[i], r.due[j] = r.due[j], r.due[i] })
	}
	for _, e := range r.due[:n] {
		mark, _, err := r.Take(e)
		if err != nil {
			t.Fatal(err)
		}
		seen[fmt.Sprintf("sent, mark %d", mark)]++
	}
	r.due = r.due[n:]
}

// begun is a room's events, all drafted and sealed: a create, al's join, levels and rules.
func begun(t *testing.T, c chance) []api.Event {
	t.Helper()
	v, err := make.Create(room, al, 1)
	if err != nil {
		t.Fatal(err)
	}
	first := sealedBy(t, v)
	r := &replica{Room: newRoom(t, first)}
	l := []api.Event{first}
	for _, e := range []api.Event{join(al), asked(levelsType, "", al, "users", fields(al, 100, bo, 50)), asked(rulesType, "", al, "join_rule", "public"), join(bo)} {
		l = append(l, r.next(t, e, map[string]int{}))
		if c.seldom(9) {
			break
		}
	}
	return l
}

// TestChance lets servers draft, seal and send one another events, so that they have forks and mend them.
func TestChance(t *testing.T) {
	c := chance{rand.New(rand.NewSource(1))}
	seen := map[string]int{}
	for range 60 {
		first := begun(t, c)
		l := []*replica{{Room: newRoom(t, first...)}, {Room: newRoom(t, first...)}, {Room: newRoom(t, first...)}}
		for i := range 30 {
			at := c.Intn(len(l))
			asked := c.deed()
			asked.Stamp = int64(c.Intn(4)*100 + i)
			e := l[at].next(t, asked, seen)
			for j, other := range l {
				if j != at {
					other.due = append(other.due, e)
				}
				if c.seldom(4) {
					other.catchUp(t, c, 1+c.Intn(8), seen)
				}
			}
		}
		for _, r := range l {
			r.catchUp(t, c, len(r.due), seen)
		}
		if !slices.Equal(l[0].Now(), l[1].Now()) && slices.Equal(l[0].Ends(), l[1].Ends()) {
			t.Error("two states of the same ends")
		}
	}
	for _, what := range []string{"mark 2", "mark 4", "several ends, mark 2", "several ends, mark 4", "sent, mark 1", "sent, mark 2", "sent, mark 3", "sent, mark 4", "of type " + createType, "of type " + memberType, "of type " + levelsType, "of type " + rulesType, "of type " + messageType, "of type " + topicType} {
		if seen[what] < 50 {
			t.Errorf("%s: %d times", what, seen[what])
		}
	}
}

// TestManyEnds: as many as twenty are mended by one event; of more the rest stay.
func TestManyEnds(t *testing.T) {
	c := chance{rand.New(rand.NewSource(2))}
	for _, n := range []int{2, 19, 20, 21, 30} {
		first := begun(t, c)
		from := newRoom(t, first...)
		r := newRoom(t, first...)
		for i := range n {
			asked := message(al)
			asked.Stamp = int64(i)
			if mark, _, err := r.Take(sealedBy(t, drafts(t, from, asked))); mark != api.Accepted || err != nil {
				t.Fatal(mark, err)
			}
		}
		ends := r.Ends()
		e := sealedBy(t, drafts(t, r, asked(topicType, "", al)))
		if mark, _, err := r.Take(e); mark != api.Accepted || err != nil {
			t.Fatal(mark, err)
		}
		rest := append(slices.Clone(ends[min(n, 20):]), e.ID)
		slices.Sort(rest)
		if !slices.Equal(r.Ends(), rest) || !slices.Equal(e.Prev, ends[:min(n, 20)]) {
			t.Errorf("%d ends: %q", n, r.Ends())
		}
	}
}

// TestFullRoom: a draft is told of a full room, too, which just doesn't take it.
func TestFullRoom(t *testing.T) {
	r := newRoom(t, begun(t, chance{rand.New(rand.NewSource(3))})...)
	for i := len(r.Order()); i < api.MaxEvents-1; i++ {
		e := message(al)
		auths := drafted(t, r, e)
		filler := api.Event{ID: name(i), Type: messageType, Room: room, Sender: al, Prev: r.Ends(), Auth: auths, Depth: int64(i), Content: e.Content}
		if mark, _, err := r.Take(filler); mark != api.Accepted || err != nil {
			t.Fatal(mark, err)
		}
	}
	last := sealedBy(t, drafts(t, r, message(al)))
	if last.Depth != api.MaxEvents-1 {
		t.Error(last.Depth)
	}
	if mark, _, err := r.Take(last); mark != api.Accepted || err != nil {
		t.Errorf("%d, %v", mark, err)
	}
	e := sealedBy(t, drafts(t, r, message(al)))
	if mark, _, err := r.Take(e); mark != api.Unknown || err != api.ErrFull {
		t.Errorf("%d, %v", mark, err)
	}
	if !slices.Equal(e.Prev, []string{last.ID}) {
		t.Errorf("%q", e.Prev)
	}
}

// drafted are the authorising events that a draft names.
func drafted(t *testing.T, r *dag.Room, e api.Event) []string {
	t.Helper()
	v, err := make.Draft(r, e)
	if err != nil {
		t.Fatal(err)
	}
	return strings.Fields(list(t, v, "auth_events"))
}

// TestSealedStands: what is drafted and sealed is as its fields were, and its signature holds.
func TestSealedStands(t *testing.T) {
	c := chance{rand.New(rand.NewSource(4))}
	r := &replica{Room: newRoom(t, begun(t, c)...)}
	for i := range 100 {
		asked := c.deed()
		asked.Stamp = int64(i)
		v := drafts(t, r.Room, asked)
		e := seals(t, v, config("x"))
		if e.Type != asked.Type || e.Sender != asked.Sender || e.HasKey != asked.HasKey || e.Stamp != asked.Stamp || e.Room != room || asked.HasKey && e.Key != asked.Key {
			t.Fatalf("%+v of %+v", e, asked)
		}
		bare := e.Raw
		for _, name := range []string{"hashes", "signatures"} {
			bare = with(bare, name, none)
		}
		if text(bare) != text(v) {
			t.Fatalf("%s of %s", text(bare), text(v))
		}
		if id, _ := event.ID(v); i > 0 && id == e.ID {
			t.Fatal("its name doesn't tell its hash")
		}
		r.next(t, asked, map[string]int{})
	}
}
