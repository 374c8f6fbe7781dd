package dag_test

import (
	"fmt"
	"math"
	"math/rand"
	"slices"
	"testing"

	"covey/api"
	"covey/auth"
	"covey/dag"
)

// chance makes rooms by chance.
type chance struct{ *rand.Rand }

// pick is one of some.
func pick[T any](c chance, some ...T) T { return some[c.Intn(len(some))] }

// seldom is true once in so many times.
func (c chance) seldom(n int) bool { return c.Intn(n) == 0 }

// shuffled is a list in some order.
func shuffled[T any](c chance, l []T) []T {
	l = slices.Clone(l)
	c.Shuffle(len(l), func(i, j int) { l[i], l[j] = l[j], l[i] })
	return l
}

// deed is some event, without its Prev and Auth.
func (c chance) deed(id string) api.Event {
	sender := pick(c, al, al, al, bo, bo, ca)
	switch c.Intn(12) {
	case 0, 1, 2, 3:
		user := pick(c, al, bo, bo, ca, ca)
		if c.seldom(2) {
			user = sender
		}
		return member(id, sender, user, pick(c, "join", "join", "join", "invite", "leave", "leave", "ban"), "", "")
	case 4, 5:
		e := levels(id, pick(c, 100, 100, 100, 60), pick(c, 0, 40, 50, 60, 100), "", "")
		e.Sender = sender
		return e
	case 6:
		return event(id, rulesType, "", sender, "", "", "join_rule", pick(c, "public", "public", "invite", "private"))
	case 7, 8:
		return message(id, sender, "", "")
	}
	return event(id, topicType, pick(c, "", "", "", "k"), sender, "", "")
}

// grown is a room that grew as rooms do, on several branches: events in an order in which none waits, most of which are allowed by what they name.
func (c chance) grown(n int) []api.Event {
	r, _ := dag.New(room)
	events, told := base(), map[string]api.Event{}
	var last []string // what is followed
	keep := func(e api.Event) int {
		mark, _, _ := r.Take(e)
		told[e.ID] = e
		return mark
	}
	for _, e := range events {
		keep(e)
		last = append(last, e.ID)
	}
	for i := range n {
		e := c.next(r, fmt.Sprintf("%c%d", 'a'+rune(c.Intn(26)), i), last[max(0, len(last)-6):])
		e.Stamp, e.Depth = int64(c.Intn(6)+i/3), int64(c.Intn(9))-2
		var l []api.Event
		for _, id := range e.Auth {
			l = append(l, told[id])
		}
		if auth.Check(e, l) != 0 && !c.seldom(5) {
			continue
		}
		events = append(events, e)
		if keep(e) != api.Rejected || c.seldom(3) {
			last = append(last, e.ID)
		}
	}
	return events
}

// next is an event that follows the ends or some of the last ones, and names what it should, most often.
func (c chance) next(r *dag.Room, id string, last []string) api.Event {
	if c.seldom(50) {
		e := create()
		e.ID = id
		return e
	}
	e := c.deed(id)
	state := r.Now()
	e.Prev = r.Ends()
	if len(e.Prev) > 3 || !c.seldom(3) {
		e.Prev = nil
		for range 1 + c.Intn(2)*c.Intn(3) {
			e.Prev = append(e.Prev, pick(c, last...))
		}
		state, _ = r.After(e.Prev[0])
	}
	for _, p := range auth.Select(e) {
		for _, x := range state {
			if x.Type == p.Type && x.Key == p.Key {
				e.Auth = append(e.Auth, x.ID)
			}
		}
	}
	if c.seldom(15) {
		e.Auth = append(e.Auth, pick(c, r.Order()...))
	}
	if c.seldom(15) && len(e.Auth) > 0 {
		at := c.Intn(len(e.Auth))
		e.Auth = slices.Delete(e.Auth, at, at+1)
	}
	return e
}

// wild is a room of events that name any others, in rings, too, and such as there are none of.
func (c chance) wild(n int) []api.Event {
	events := base()
	names := []string{"c", "a", "l", "r", "b"}
	for i := range n {
		names = append(names, fmt.Sprintf("%c", 'A'+i))
	}
	for _, id := range names[5:] {
		e := c.deed(id)
		e.Stamp = int64(c.Intn(9))
		for range c.Intn(4) {
			e.Prev = append(e.Prev, pick(c, names...))
		}
		for range c.Intn(3) {
			e.Auth = append(e.Auth, pick(c, names...))
		}
		if !c.seldom(3) {
			e.Auth = append(e.Auth, "c", "a", "l")
		}
		if c.seldom(9) {
			e.Prev = append(e.Prev, pick(c, "no", "", "none"))
		}
		if c.seldom(9) {
			e.Depth = pick[int64](c, math.MinInt64, math.MaxInt64, -1, 7)
		}
		if c.seldom(30) {
			e.Room = pick(c, "", "!q:x")
		}
		events = append(events, e)
	}
	return events
}

// nearly is a list in an order of which each one is moved by not much.
func nearly[T any](c chance, l []T) []T {
	l = slices.Clone(l)
	for range len(l) / 3 {
		from, to := c.Intn(len(l)), 0
		to = min(len(l)-1, max(0, from+c.Intn(9)-4))
		e := l[from]
		l = slices.Insert(slices.Delete(l, from, from+1), to, e)
	}
	return l
}

// TestChance holds rooms of both makes, taken in any order, against the oracle behind each event; all that the promises tell of must be met with.
func TestChance(t *testing.T) {
	c := chance{rand.New(rand.NewSource(1))}
	seen := map[string]int{}
	for i := range 2000 {
		var events []api.Event
		switch i % 4 {
		case 0:
			events = c.grown(4 + c.Intn(24))
		case 1:
			events = nearly(c, c.grown(4+c.Intn(24)))
		case 2:
			events = shuffled(c, c.grown(4+c.Intn(16)))
		case 3:
			events = nearly(c, c.wild(3+c.Intn(9)))
		}
		w := newRoom(t)
		for _, e := range events {
			_, more, err := w.take(e)
			switch {
			case err != nil:
				seen[err.Error()]++
			case len(more) > 0:
				seen["others are marked"]++
			case len(w.Ends()) > 1:
				seen["several ends"]++
			}
			if c.seldom(9) {
				w.take(pick(c, events...))
			}
		}
		if len(w.Staged()) > 0 {
			seen["some wait for good"]++
		}
		for what, n := range w.o.seen {
			seen[what] += n
		}
	}
	for _, what := range []string{byAuthRejected, byAuth, byAhead, byNow, byNothing, "several states", "several others", "several ends", "others are marked", "some wait for good", api.ErrForm.Error(), api.ErrKnown.Error()} {
		if seen[what] < 100 {
			t.Errorf("%s: %d times", what, seen[what])
		}
	}
}

// TestAnyOrder is P18.6: whatever the order, each event is rejected or not, and has the same states.
func TestAnyOrder(t *testing.T) {
	c := chance{rand.New(rand.NewSource(2))}
	seen := map[string]int{}
	for range 1000 {
		events := c.grown(8 + c.Intn(40))
		// Where some never come, what waits for them isn't marked in any order.
		for c.seldom(3) {
			at := c.Intn(len(events))
			events = slices.Delete(events, at, at+1)
		}
		first, _ := dag.New(room)
		for _, e := range events {
			first.Take(e)
		}
		for range 4 {
			other, _ := dag.New(room)
			for _, e := range pick(c, shuffled(c, events), nearly(c, events)) {
				if _, _, err := other.Take(e); err != nil {
					t.Fatalf("%+v: %v", e, err)
				}
			}
			agree(t, first, other, events, seen)
		}
	}
	for _, what := range []string{"another order", "soft in one alone", "other ends", "the same several ends", "rejected", "staged"} {
		if seen[what] < 100 {
			t.Errorf("%s: %d times", what, seen[what])
		}
	}
}

// agree holds two rooms of the same events against one another.
func agree(t *testing.T, one, other *dag.Room, events []api.Event, seen map[string]int) {
	t.Helper()
	if !slices.Equal(one.Order(), other.Order()) {
		seen["another order"]++
	}
	if one.Top() != other.Top() || !slices.Equal(one.Missing(), other.Missing()) {
		t.Fatalf("Top: %d, %d; Missing: %q, %q: %s", one.Top(), other.Top(), one.Missing(), other.Missing(), brief(events))
	}
	for _, e := range events {
		a, b := one.Mark(e.ID), other.Mark(e.ID)
		if (a == api.Rejected) != (b == api.Rejected) || (a == api.Staged) != (b == api.Staged) {
			t.Fatalf("%q: %d, %d: %s", e.ID, a, b, brief(events))
		}
		switch {
		case a == api.Rejected:
			seen["rejected"]++
		case a == api.Staged:
			seen["staged"]++
		case a != b:
			seen["soft in one alone"]++
		}
		aheadA, _ := one.Before(e.ID)
		aheadB, _ := other.Before(e.ID)
		behindA, _ := one.After(e.ID)
		behindB, _ := other.After(e.ID)
		if !slices.Equal(aheadA, aheadB) || !slices.Equal(behindA, behindB) {
			t.Fatalf("%q: ahead %v, %v; behind %v, %v: %s", e.ID, aheadA, aheadB, behindA, behindB, brief(events))
		}
	}
	if !slices.Equal(one.Ends(), other.Ends()) {
		seen["other ends"]++
		return
	}
	if len(one.Ends()) > 1 {
		seen["the same several ends"]++
	}
	if !slices.Equal(one.Now(), other.Now()) {
		t.Fatalf("Now: %v, %v: %s", one.Now(), other.Now(), brief(events))
	}
}

// brief is a value in short.
func brief(v any) string {
	s := fmt.Sprintf("%+v", v)
	return s[:min(len(s), 5000)]
}
