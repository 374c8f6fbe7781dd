package make_test

import (
	"reflect"
	"slices"
	"strings"
	"testing"
	"unsafe"

	"covey/api"
	"covey/dag"
	"covey/make"
)

// given is an event whose lists have spare room, and whose texts lie where no other ones do.
func given() api.Event {
	e := asked(strings.Clone(topicType), strings.Clone("key"), strings.Clone(bo))
	in := api.Value{Kind: api.List, List: append(roomy(4), fields("b", strings.Clone("in"), "e", []any{}))}
	in.List[0].Fields = append(append([]api.Field{}, in.List[0].Fields...), api.Field{})[:2]
	e.Content = fields("a", in, strings.Clone("t"), strings.Clone("text"))
	e.Content.Fields = slices.Grow(e.Content.Fields, 3)
	e.Content.List = append(roomy(4), value(strings.Clone("unused")))
	return e
}

// roomy is a list without elements, but with room for some.
func roomy(room int) []api.Value { return slices.Grow([]api.Value(nil), room) }

// spoil overwrites all lists of a value, and their spare room.
func spoil(v api.Value) {
	bad := api.Value{Kind: api.Text, Text: "spoilt"}
	for i, w := range v.List[:cap(v.List)] {
		spoil(w)
		v.List[:cap(v.List)][i] = bad
	}
	for i, f := range v.Fields[:cap(v.Fields)] {
		spoil(f.Value)
		v.Fields[:cap(v.Fields)][i] = api.Field{Name: "spoilt", Value: bad}
	}
}

func spoilEvent(e api.Event) {
	for _, l := range [][]string{e.Prev, e.Auth} {
		for i := range l[:cap(l)] {
			l[:cap(l)][i] = "spoilt"
		}
	}
	spoil(e.Content)
	spoil(e.Raw)
}

// TestMemory: what is handed in is neither changed nor kept, and answers are new memory, spare room too.
func TestMemory(t *testing.T) {
	r := newRoom(t, base()...)
	ahead := told(r)
	want, _ := oracleDraft(r, given())
	e := given()
	v, _ := make.Draft(r, e)
	other, _ := make.Draft(r, e)
	if !reflect.DeepEqual(e.Content, given().Content) {
		t.Error("Draft changed what it was given")
	}
	spoil(e.Content)
	if !sameValue(v, want) {
		t.Error("a draft hangs on what was given")
	}
	spoil(v)
	if !sameValue(other, want) || !reflect.DeepEqual(told(r), ahead) {
		t.Error("a draft hangs on another one, or the room on it")
	}
	v, _ = make.Create(room, al, 5)
	other, _ = make.Create(room, al, 5)
	again, _ := make.Create(room, al, 5)
	spoil(v)
	if !sameValue(other, again) || names(again) != "auth_events content depth origin_server_ts prev_events room_id sender state_key type" {
		t.Error("a create hangs on another one")
	}
}

// TestMemoryOfSeal: the same of it; what it is given may hold lists in several places.
func TestMemoryOfSeal(t *testing.T) {
	v := with(sealable(), "content", given().Content)
	v.Fields = slices.Grow(v.Fields, 4)
	ahead := text(v)
	want := seals(t, v, config("x"))
	e, _ := make.Seal(v, config("x"))
	other, _ := make.Seal(v, config("x"))
	if text(v) != ahead {
		t.Error("Seal changed what it was given")
	}
	spoil(v)
	if !reflect.DeepEqual(e, want) {
		t.Error("an event hangs on what was given")
	}
	spoil(e.Content)
	if !sameValue(e.Raw, want.Raw) {
		t.Error("an event's Raw hangs on its Content")
	}
	spoilEvent(e)
	if !reflect.DeepEqual(other, want) {
		t.Error("an event hangs on another one")
	}
}

// texts are texts that were handed in or answered, by where they lie, with what told them.
type texts map[*byte]string

// hold asks that texts lie where no other one does.
func (l texts) hold(t *testing.T, what string, some ...string) {
	t.Helper()
	for _, s := range some {
		if s == "" {
			continue
		}
		if other, shares := l[unsafe.StringData(s)]; shares {
			t.Errorf("%s: %q lies where one of %s does", what, s, other)
		}
		l[unsafe.StringData(s)] = what
	}
}

func (l texts) holdValue(t *testing.T, what string, v api.Value) {
	t.Helper()
	l.hold(t, what, v.Text)
	for _, w := range v.List {
		l.holdValue(t, what, w)
	}
	for _, f := range v.Fields {
		l.holdValue(t, what, f.Value)
	}
}

// TestTexts: no text is told in memory that was handed in. (The names of a draft's fields are the program's own, and can't be changed.)
func TestTexts(t *testing.T) {
	held := texts{}
	r := newRoom(t, base()...)
	for range 2 {
		e := given()
		held.hold(t, "an argument", e.Type, e.Sender, e.Key)
		held.holdValue(t, "an argument", e.Content)
		v, err := make.Draft(r, e)
		if err != nil {
			t.Fatal(err)
		}
		held.holdValue(t, "Draft", v)
		for _, f := range field(t, v, "content").Fields {
			held.hold(t, "Draft", f.Name)
		}
		name, sender := strings.Clone(room), strings.Clone(al)
		held.hold(t, "an argument", name, sender)
		v, _ = make.Create(name, sender, 5)
		held.holdValue(t, "Create", v)
		held.holdValue(t, "Seal", ofSeal(t, v))
	}
}

// ofSeal is what Seal makes of a value.
func ofSeal(t *testing.T, v api.Value) api.Value {
	t.Helper()
	e, err := make.Seal(v, config("x"))
	if err != nil {
		t.Fatal(err)
	}
	return e.Raw
}

// TestNoPanic: whatever is handed in, a call ends, and tells one of its errors.
func TestNoPanic(t *testing.T) {
	r := newRoom(t, base()...)
	for _, v := range append(oddContents(), api.Value{}, api.Value{Kind: 9}, value("\xff")) {
		for _, room := range []*dag.Room{nil, {}, r} {
			e := message(al)
			e.Content = v
			if _, err := make.Draft(room, e); err != nil && err != api.ErrForm && err != api.ErrState {
				t.Error(err)
			}
		}
		if _, err := make.Seal(v, config("x")); err != api.ErrForm {
			t.Error(err)
		}
	}
}
