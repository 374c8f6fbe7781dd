package dag_test

import (
	"slices"
	"strings"
	"testing"
	"unsafe"

	"covey/api"
	"covey/dag"
)

// arguments is an event whose lists have spare room.
func arguments() api.Event {
	e := topic("p", al, "b", "c a l")
	e.Prev, e.Auth = append(make([]string, 0, 4), e.Prev...), append(make([]string, 0, 8), e.Auth...)
	e.Content = fields("a", api.Value{Kind: api.List, List: append(make([]api.Value, 0, 4), fields("b", "in"))}, "t", "text")
	e.Raw = fields("a", e.Content, "b", e.Content)
	return e
}

// spoil overwrites all lists of an event, and their spare room.
func spoil(e api.Event) {
	for _, l := range [][]string{e.Prev, e.Auth} {
		for i := range l[:cap(l)] {
			l[:cap(l)][i] = "spoilt"
		}
	}
	spoilValue(e.Content)
	spoilValue(e.Raw)
}

func spoilValue(v api.Value) {
	bad := api.Value{Kind: api.Text, Text: "spoilt"}
	for i, w := range v.List[:cap(v.List)] {
		spoilValue(w)
		v.List[:cap(v.List)][i] = bad
	}
	for i, f := range v.Fields[:cap(v.Fields)] {
		spoilValue(f.Value)
		v.Fields[:cap(v.Fields)][i] = api.Field{Name: "spoilt", Value: bad}
	}
}

// TestMemory: what is handed in is neither changed nor kept, and answers are new memory, spare room too.
func TestMemory(t *testing.T) {
	w := newBase(t)
	given, want := arguments(), arguments()
	w.is(want, api.Accepted, "")
	w = newBase(t)
	if mark, _, err := w.Take(given); mark != api.Accepted || err != nil || !same(given, want) {
		t.Fatalf("%d, %v: %+v", mark, err, given)
	}
	w.o.take(want)
	spoil(given)
	w.check()
	// The same of one that waits: what it names is asked for later on.
	given, want = arguments(), arguments()
	given.ID, want.ID = "q", "q"
	given.Prev[0], want.Prev[0] = "m", "m"
	if mark, _, err := w.Take(given); mark != api.Staged || err != nil || !same(given, want) {
		t.Fatalf("%d, %v: %+v", mark, err, given)
	}
	w.o.take(want)
	spoil(given)
	w.check()
	_, more, _ := w.take(message("m", al, "p", "c a l"))
	w.take(message("o", al, "none yet", "c a l"))
	for range 2 {
		for _, l := range [][]string{more, w.Ends(), w.Missing(), w.Order(), w.Staged()} {
			for i := range l[:cap(l)] {
				l[:cap(l)][i] = "spoilt"
			}
		}
		for _, id := range []string{"c", "p", "q", "m"} {
			ahead, _ := w.Before(id)
			behind, _ := w.After(id)
			for _, s := range []api.State{ahead, behind, w.Now()} {
				clear(s[:cap(s)])
			}
			e, _ := w.Event(id)
			spoil(e)
		}
		w.check()
	}
	w.is(topic("s", al, "q", "c a l"), api.Accepted, "")
}

// texts are texts that were handed in or answered, by where they lie, with what told them.
type texts map[*byte]string

// hold asks that texts lie where no other one does.
func (l texts) hold(t *testing.T, what string, some ...string) {
	t.Helper()
	for _, s := range some {
		if s == "" {
			continue
		}
		if other, shares := l[unsafe.StringData(s)]; shares {
			t.Errorf("%s: %q lies where one of %s does", what, s, other)
		}
		l[unsafe.StringData(s)] = what
	}
}

func (l texts) holdState(t *testing.T, what string, s api.State) {
	t.Helper()
	for _, x := range s {
		l.hold(t, what, x.Type, x.Key, x.ID)
	}
}

func (l texts) holdEvent(t *testing.T, what string, e api.Event) {
	t.Helper()
	l.hold(t, what, e.ID, e.Type, e.Room, e.Sender, e.Key)
	l.hold(t, what, e.Prev...)
	l.hold(t, what, e.Auth...)
	l.holdValue(t, what, e.Content)
	l.holdValue(t, what, e.Raw)
}

func (l texts) holdValue(t *testing.T, what string, v api.Value) {
	t.Helper()
	l.hold(t, what, v.Text)
	for _, w := range v.List {
		l.holdValue(t, what, w)
	}
	for _, f := range v.Fields {
		l.hold(t, what, f.Name)
		l.holdValue(t, what, f.Value)
	}
}

// own is an event whose texts lie where no other ones do.
func own(e api.Event) api.Event {
	for _, s := range []*string{&e.ID, &e.Type, &e.Room, &e.Sender, &e.Key} {
		*s = strings.Clone(*s)
	}
	for _, l := range []*[]string{&e.Prev, &e.Auth} {
		*l = slices.Clone(*l)
		for i, s := range *l {
			(*l)[i] = strings.Clone(s)
		}
	}
	e.Content, e.Raw = ownValue(e.Content), ownValue(e.Raw)
	return e
}

func ownValue(v api.Value) api.Value {
	v.Text, v.List, v.Fields = strings.Clone(v.Text), slices.Clone(v.List), slices.Clone(v.Fields)
	for i, w := range v.List {
		v.List[i] = ownValue(w)
	}
	for i, f := range v.Fields {
		v.Fields[i] = api.Field{Name: strings.Clone(f.Name), Value: ownValue(f.Value)}
	}
	return v
}

// TestTexts: no text is told in memory that someone else has.
func TestTexts(t *testing.T) {
	held := texts{}
	name := strings.Clone(room)
	held.hold(t, "New", name)
	r, _ := dag.New(name)
	for _, e := range append(base(), message("s", al, "m", "c a l"), arguments(), message("m", al, "p", "c a l"), message("n", al, "no", "x")) {
		e = own(e)
		held.holdEvent(t, "an argument", e)
		_, more, err := r.Take(e)
		if err != nil {
			t.Fatal(err)
		}
		held.hold(t, "Take", more...)
	}
	for range 2 {
		held.hold(t, "Name", r.Name())
		held.hold(t, "Ends", r.Ends()...)
		held.hold(t, "Missing", r.Missing()...)
		held.hold(t, "Order", r.Order()...)
		held.hold(t, "Staged", r.Staged()...)
		held.holdState(t, "Now", r.Now())
		for _, id := range append(r.Order(), r.Staged()...) {
			e, _ := r.Event(id)
			held.holdEvent(t, "Event", e)
			ahead, _ := r.Before(id)
			behind, _ := r.After(id)
			held.holdState(t, "Before", ahead)
			held.holdState(t, "After", behind)
		}
	}
}
