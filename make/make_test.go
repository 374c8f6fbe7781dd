package make_test

import (
	"crypto/ed25519"
	"encoding/base64"
	"fmt"
	"math"
	"reflect"
	"slices"
	"strings"
	"testing"

	"covey/api"
	"covey/canon"
	"covey/dag"
	"covey/event"
	"covey/make"
)

const (
	createType  = "m.room.create"
	memberType  = "m.room.member"
	levelsType  = "m.room.power_levels"
	rulesType   = "m.room.join_rules"
	topicType   = "m.room.topic"
	messageType = "m.room.message"
)

// Some users, and the room of most tests.
const (
	al, bo, ca = "@al:x", "@bo:x", "@ca:y"
	room       = "!r:x"
)

// value is what is told by Go's own means: an int, a string, a list of these, or an object.
func value(v any) api.Value {
	switch w := v.(type) {
	case api.Value:
		return w
	case int:
		return api.Value{Kind: api.Int, Int: int64(w)}
	case string:
		return api.Value{Kind: api.Text, Text: w}
	case []any:
		l := api.Value{Kind: api.List}
		for _, x := range w {
			l.List = append(l.List, value(x))
		}
		return l
	}
	panic(fmt.Sprintf("%T", v))
}

// fields is an object of names and values, by turns.
func fields(l ...any) api.Value {
	v := api.Value{Kind: api.Object}
	for i := 0; i < len(l); i += 2 {
		v.Fields = append(v.Fields, api.Field{Name: l[i].(string), Value: value(l[i+1])})
	}
	return v
}

// asked is a state event as it is handed in to Draft.
func asked(kind, key, sender string, content ...any) api.Event {
	return api.Event{Type: kind, Sender: sender, HasKey: true, Key: key, Content: fields(content...), Stamp: 7}
}

func join(user string) api.Event { return asked(memberType, user, user, "membership", "join") }

func message(sender string) api.Event {
	e := asked(messageType, "", sender, "body", "hi")
	e.HasKey = false
	return e
}

// hung is a state event as a room takes it; prev and auth are IDs.
func hung(id, kind, key, sender, prev, auth string, content ...any) api.Event {
	return api.Event{ID: id, Type: kind, Room: room, Sender: sender, HasKey: true, Key: key, Prev: strings.Fields(prev), Auth: strings.Fields(auth), Content: fields(content...)}
}

// said is a message as a room takes it.
func said(id, prev string, depth int64) api.Event {
	e := hung(id, messageType, "", al, prev, "c a l")
	e.HasKey, e.Depth = false, depth
	return e
}

// base is a public room of al, which bo has joined; al's level is 100, bo's 50. Its IDs rise otherwise than Select's pairs do.
func base() []api.Event {
	return []api.Event{
		hung("c", createType, "", al, "", "", "room_version", "11"), hung("a", memberType, al, al, "c", "c", "membership", "join"),
		hung("l", levelsType, "", al, "a", "c a", "users", fields(al, 100, bo, 50)),
		hung("j", rulesType, "", al, "l", "c a l", "join_rule", "public"), hung("b", memberType, bo, bo, "j", "c j l", "membership", "join"),
	}
}

// newRoom is a room with some events, none of which is rejected.
func newRoom(t *testing.T, events ...api.Event) *dag.Room {
	t.Helper()
	r, err := dag.New(room)
	if err != nil {
		t.Fatal(err)
	}
	for _, e := range events {
		if mark, _, err := r.Take(e); mark == api.Rejected || err != nil {
			t.Fatalf("Take of %+v: %d, %v", e, mark, err)
		}
	}
	return r
}

// text is a value's canonical text; of what can't be told all that Go tells of it.
func text(v api.Value) string {
	if s, err := canon.Write(v); err == nil {
		return s
	}
	return fmt.Sprintf("%+v", v)
}

// drafts asks Draft, and holds the answer against the oracle, and the room against what it was.
func drafts(t *testing.T, r *dag.Room, e api.Event) api.Value {
	t.Helper()
	ahead := told(r)
	v, err := make.Draft(r, e)
	want, wantErr := oracleDraft(r, e)
	if err != wantErr || !sameValue(v, want) {
		t.Fatalf("Draft of %+v: %s, %v; not %s, %v", e, text(v), err, text(want), wantErr)
	}
	if !reflect.DeepEqual(told(r), ahead) {
		t.Fatalf("Draft of %+v changed the room", e)
	}
	return v
}

// refuses asks Draft for an error.
func refuses(t *testing.T, r *dag.Room, e api.Event, want error) {
	t.Helper()
	if v, err := make.Draft(r, e); err != want || !reflect.DeepEqual(v, api.Value{}) {
		t.Errorf("Draft of %+v: %s, %v; not %v", e, text(v), err, want)
	}
}

// told is all that a room tells.
func told(r *dag.Room) []any {
	if r == nil {
		return nil
	}
	l := []any{r.Name(), r.Ends(), r.Now(), r.Missing(), r.Order(), r.Staged(), r.Top()}
	for _, id := range append(r.Order(), r.Staged()...) {
		e, _ := r.Event(id)
		l = append(l, e, r.Mark(id))
	}
	return l
}

// names are the names of an object's fields, in their order.
func names(v api.Value) string {
	var l []string
	for _, f := range v.Fields {
		l = append(l, f.Name)
	}
	return strings.Join(l, " ")
}

// field is the value of the field of that name.
func field(t *testing.T, v api.Value, name string) api.Value {
	t.Helper()
	at := slices.IndexFunc(v.Fields, func(f api.Field) bool { return f.Name == name })
	if at < 0 {
		t.Fatalf("no %s in %s", name, text(v))
	}
	return v.Fields[at].Value
}

// list are the texts of a list in an object.
func list(t *testing.T, v api.Value, name string) string {
	t.Helper()
	var l []string
	for _, x := range field(t, v, name).List {
		l = append(l, x.Text)
	}
	return strings.Join(l, " ")
}

// sameValue tells whether two values are alike, also in what their kinds don't use; a nil list and an empty one are.
func sameValue(a, b api.Value) bool {
	return a.Kind == b.Kind && a.Bool == b.Bool && a.Int == b.Int && a.Text == b.Text && slices.EqualFunc(a.List, b.List, sameValue) &&
		slices.EqualFunc(a.Fields, b.Fields, func(a, b api.Field) bool { return a.Name == b.Name && sameValue(a.Value, b.Value) })
}

// with is an object with another value in a field, or without one of the kind -1.
func with(v api.Value, name string, w api.Value) api.Value {
	v.Fields = slices.DeleteFunc(slices.Clone(v.Fields), func(f api.Field) bool { return f.Name == name })
	if w.Kind != -1 {
		v.Fields = append(v.Fields, api.Field{Name: name, Value: w})
	}
	return v
}

var none = api.Value{Kind: -1}

// TestExamples are the chapter's.
func TestExamples(t *testing.T) {
	v, err := make.Create(room, al, 5)
	want := `{"auth_events":[],"content":{"room_version":"11"},"depth":0,"origin_server_ts":5,"prev_events":[],"room_id":"!r:x","sender":"@al:x","state_key":"","type":"m.room.create"}`
	if text(v) != want || err != nil {
		t.Errorf("%s, %v", text(v), err)
	}
	for _, x := range []struct {
		room  string
		stamp int64
	}{{"r", 5}, {room, -1}} {
		if v, err := make.Create(x.room, al, x.stamp); err != api.ErrForm || !reflect.DeepEqual(v, api.Value{}) {
			t.Errorf("%q, %d: %s, %v", x.room, x.stamp, text(v), err)
		}
	}
	refuses(t, newRoom(t), message(al), api.ErrState)
	r := newRoom(t, base()[0])
	v = drafts(t, r, join(al))
	want = `{"auth_events":["c"],"content":{"membership":"join"},"depth":1,"origin_server_ts":7,"prev_events":["c"],"room_id":"!r:x","sender":"@al:x","state_key":"@al:x","type":"m.room.member"}`
	if text(v) != want {
		t.Error(text(v))
	}
}

// Names as layer 13 has them, and such as are none.
var (
	goodServers = []string{"x", "a.example", "9-a.b", strings.Repeat("s", 64)}
	badServers  = []string{"", "X", "x:y", "-x", "x.", "a..b", "x ", strings.Repeat("s", 65)}
)

func goodUsers() []string {
	l := []string{"@a._=-/9:x", "@" + strings.Repeat("u", 32) + ":x"}
	for _, s := range goodServers {
		l = append(l, "@al:"+s)
	}
	return l
}

func badUsers() []string {
	l := []string{"", "@", "al", "@al", "@:x", "al:x", "!al:x", "$al:x", "@Al:x", " @al:x", "@\xff:x", "@" + strings.Repeat("u", 33) + ":x"}
	for _, s := range badServers {
		l = append(l, "@al:"+s)
	}
	return l
}

func goodRooms() []string {
	l := []string{"!R_-9:x", "!" + strings.Repeat("r", 32) + ":x"}
	for _, s := range goodServers {
		l = append(l, "!r:"+s)
	}
	return l
}

func badRooms() []string {
	l := []string{"", "!", "r", "!r", "!:x", "r:x", "@r:x", "!r.:x", "!r:x\x00", "!\xff:x", "!" + strings.Repeat("r", 33) + ":x"}
	for _, s := range badServers {
		l = append(l, "!r:"+s)
	}
	return l
}

var (
	goodStamps = []int64{0, 1, 5, 1 << 32, api.MaxInt - 1, api.MaxInt}
	badStamps  = []int64{-1, -2, math.MinInt64, -api.MaxInt, api.MaxInt + 1, api.MaxInt + 2, math.MaxInt64}
)

// TestCreate is P19.1.
func TestCreate(t *testing.T) {
	for _, name := range goodRooms() {
		for _, sender := range goodUsers() {
			for _, stamp := range goodStamps {
				v, err := make.Create(name, sender, stamp)
				want := fields("auth_events", []any{}, "content", fields("room_version", "11"), "depth", 0, "origin_server_ts", int(stamp), "prev_events", []any{}, "room_id", name, "sender", sender, "state_key", "", "type", createType)
				if err != nil || !sameValue(v, want) {
					t.Errorf("%q, %q, %d: %s, %v", name, sender, stamp, text(v), err)
				}
			}
		}
	}
	form := func(name, sender string, stamp int64) {
		t.Helper()
		if v, err := make.Create(name, sender, stamp); err != api.ErrForm || !reflect.DeepEqual(v, api.Value{}) {
			t.Errorf("%q, %q, %d: %s, %v", name, sender, stamp, text(v), err)
		}
	}
	for _, name := range badRooms() {
		form(name, al, 5)
	}
	for _, sender := range badUsers() {
		form(room, sender, 5)
	}
	for _, stamp := range badStamps {
		form(room, al, stamp)
	}
	form("", "", -1)
	form(al, room, 5)
}

// TestCreateBeginsARoom: sealed it is accepted, where its servers are one; no room else takes it.
func TestCreateBeginsARoom(t *testing.T) {
	for sender, want := range map[string]int{al: api.Accepted, bo: api.Accepted, ca: api.Rejected} {
		v, _ := make.Create(room, sender, 5)
		e, err := make.Seal(v, config("x"))
		if err != nil {
			t.Fatal(err)
		}
		if mark, _, err := newRoom(t).Take(e); mark != want || err != nil {
			t.Errorf("%q: %d, %v", sender, mark, err)
		}
	}
}

// TestDraftForm: what Draft refuses by itself, whatever the room.
func TestDraftForm(t *testing.T) {
	empty, rooms := newRoom(t), map[string]*dag.Room{}
	rooms["none"], rooms["zero"], rooms["empty"], rooms["base"] = nil, &dag.Room{}, empty, newRoom(t, base()...)
	for what, r := range rooms {
		form := func(mar func(e *api.Event)) {
			t.Helper()
			e := message(al)
			mar(&e)
			refuses(t, r, e, api.ErrForm)
			e.HasKey, e.Key = true, "k"
			refuses(t, r, e, api.ErrForm)
		}
		form(func(e *api.Event) { e.Type = "" })
		for _, sender := range badUsers() {
			form(func(e *api.Event) { e.Sender = sender })
		}
		for _, kind := range []int{api.Null, api.Bool, api.Int, api.Text, api.List, -1, 6, math.MaxInt, math.MinInt} {
			form(func(e *api.Event) { e.Content.Kind = kind })
			form(func(e *api.Event) { e.Content = api.Value{Kind: kind} })
		}
		form(func(e *api.Event) { e.Content = api.Value{} })
		for _, stamp := range badStamps {
			form(func(e *api.Event) { e.Stamp = stamp })
		}
		form(func(e *api.Event) { *e = api.Event{} })
		if what != "base" {
			refuses(t, r, message(al), api.ErrState)
			refuses(t, r, join(al), api.ErrState)
		} else {
			drafts(t, r, message(al))
		}
	}
}

// TestDraftTakes: what Draft doesn't refuse, though no room may.
func TestDraftTakes(t *testing.T) {
	r := newRoom(t, base()...)
	for _, sender := range goodUsers() {
		drafts(t, r, message(sender))
		drafts(t, r, join(sender))
	}
	for _, stamp := range goodStamps {
		e := message(bo)
		e.Stamp = stamp
		drafts(t, r, e)
	}
	for _, kind := range []string{"a", " ", "m.room.creat", strings.Repeat("t", 255), strings.Repeat("t", 256), strings.Repeat("t", 70000), "\xff", "\x00"} {
		e := message(bo)
		e.Type = kind
		drafts(t, r, e)
		e = asked(topicType, kind, al)
		drafts(t, r, e)
	}
	for _, content := range oddContents() {
		e := message(al)
		e.Content = content
		if v := drafts(t, r, e); !sameValue(field(t, v, "content"), content) {
			t.Errorf("%+v: %s", content, text(v))
		}
	}
}

// oddContents are objects of which many can't be told.
func oddContents() []api.Value {
	deep := fields()
	for range 1000 {
		deep = fields("d", deep)
	}
	return []api.Value{
		fields(), {Kind: api.Object, Fields: []api.Field{}}, fields("b", 1, "a", 2), fields("a", 1, "a", 2), fields("", ""), fields("\xff", "\xfe"),
		fields("a", api.Value{Kind: 9, Text: "t"}), fields("a", math.MaxInt64), fields("a", []any{1, "b", fields("c", []any{})}),
		fields("a", api.Value{Kind: api.Text, Text: "t", Int: 5, Bool: true, List: []api.Value{fields("x", 1)}, Fields: []api.Field{{Name: "y"}}}),
		{Kind: api.Object, Bool: true, Int: 5, Text: "t", List: []api.Value{fields("x", 1)}, Fields: []api.Field{{Name: "n"}}},
		fields("a", strings.Repeat("long", 20000)), deep,
	}
}

// TestNoEnds: a room may have events, and no end.
func TestNoEnds(t *testing.T) {
	r := newRoom(t, said("w", "c", 1))
	refuses(t, r, message(al), api.ErrState)
	bad := base()[0]
	bad.ID, bad.Content = "bad", fields("room_version", "12")
	if mark, _, _ := r.Take(bad); mark != api.Rejected {
		t.Fatal(mark)
	}
	refuses(t, r, message(al), api.ErrState)
	r.Take(base()[0])
	drafts(t, r, message(al))
}

// TestFieldsInOrder: those of a draft, with a key and without.
func TestFieldsInOrder(t *testing.T) {
	r := newRoom(t, base()...)
	e := message(al)
	for _, key := range []string{"", "k", al} {
		e.Key = key
		e.HasKey = false
		v := drafts(t, r, e)
		if want := "auth_events content depth origin_server_ts prev_events room_id sender type"; names(v) != want {
			t.Errorf("%q: %s", key, names(v))
		}
		e.HasKey = true
		v = drafts(t, r, e)
		if want := "auth_events content depth origin_server_ts prev_events room_id sender state_key type"; names(v) != want {
			t.Errorf("%q: %s", key, names(v))
		}
		if got := field(t, v, "state_key"); !sameValue(got, value(key)) {
			t.Errorf("%q: %s", key, text(got))
		}
	}
}

// TestNotLookedAt: what of an event doesn't come into the draft.
func TestNotLookedAt(t *testing.T) {
	r := newRoom(t, base()...)
	for _, e := range []api.Event{message(al), join(bo), asked(createType, "", al), asked(topicType, "k", bo)} {
		want := drafts(t, r, e)
		e.ID, e.Room, e.Depth, e.Raw = "$i", "!q:x", -7, fields("depth", 9)
		e.Prev, e.Auth = []string{"p", "q"}, []string{"r", "c"}
		if v := drafts(t, r, e); !sameValue(v, want) {
			t.Errorf("%s, not %s", text(v), text(want))
		}
	}
	e := message(al)
	want := drafts(t, r, e)
	e.Key = bo
	if v := drafts(t, r, e); !sameValue(v, want) {
		t.Errorf("%s, not %s", text(v), text(want))
	}
	// Also a member's key that is there without being one.
	e = join(bo)
	e.HasKey, e.Key, e.Sender = false, bo, al
	if v := drafts(t, r, e); list(t, v, "auth_events") != "c l j a" {
		t.Error(text(v))
	}
}

// withEnds is the base's room with so many ends, whose IDs are e00, e01 and so on.
func withEnds(t *testing.T, n int, depths ...int64) *dag.Room {
	t.Helper()
	r := newRoom(t, base()...)
	// Backwards, so that the order of taking isn't the order of the IDs.
	for i := n - 1; i >= 0; i-- {
		var depth int64
		if i < len(depths) {
			depth = depths[i]
		}
		if mark, _, err := r.Take(said(fmt.Sprintf("e%02d", i), "b", depth)); mark != api.Accepted || err != nil {
			t.Fatal(mark, err)
		}
	}
	return r
}

// TestPrev: the ends, the first twenty of them.
func TestPrev(t *testing.T) {
	for _, n := range []int{1, 2, 3, 10, 19, 20, 21, 22, 40, 64} {
		r := withEnds(t, n)
		v := drafts(t, r, message(bo))
		var want []string
		for i := range min(n, 20) {
			want = append(want, fmt.Sprintf("e%02d", i))
		}
		if got := list(t, v, "prev_events"); got != strings.Join(want, " ") {
			t.Errorf("%d ends: %s", n, got)
		}
	}
	// A soft event is none, and what it follows still is.
	r := newRoom(t, base()...)
	r.Take(hung("k", memberType, bo, al, "b", "c l a b", "membership", "ban"))
	e := hung("s", messageType, "", bo, "b", "c l b")
	e.HasKey = false
	if mark, _, _ := r.Take(e); mark != api.Soft {
		t.Fatal(mark)
	}
	if v := drafts(t, r, message(al)); list(t, v, "prev_events") != "k" {
		t.Error(text(v))
	}
}

// TestDepth: one more than the greatest of those that are named, within its bounds.
func TestDepth(t *testing.T) {
	late := append(slices.Repeat([]int64{3}, 20), 100)
	last := append(slices.Repeat([]int64{3}, 19), 50)
	for _, x := range []struct {
		depths []int64
		want   int64
	}{
		{[]int64{0}, 1}, {[]int64{1}, 2}, {[]int64{41}, 42}, {[]int64{5, 9, 7}, 10}, {[]int64{9, 5}, 10}, {[]int64{5, 9}, 10},
		{[]int64{-1}, 1}, {[]int64{-2}, 1}, {[]int64{math.MinInt64}, 1}, {[]int64{math.MinInt64, -5}, 1}, {[]int64{-5, 0}, 1}, {[]int64{-5, 3}, 4},
		{[]int64{api.MaxInt - 2}, api.MaxInt - 1}, {[]int64{api.MaxInt - 1}, api.MaxInt}, {[]int64{api.MaxInt}, api.MaxInt}, {[]int64{api.MaxInt + 1}, api.MaxInt},
		{[]int64{math.MaxInt64}, api.MaxInt}, {[]int64{math.MaxInt64 - 1, 4}, api.MaxInt}, {[]int64{math.MinInt64, math.MaxInt64}, api.MaxInt},
		{last, 51}, {late, 4},
	} {
		r := withEnds(t, len(x.depths), x.depths...)
		if got := field(t, drafts(t, r, message(bo)), "depth"); !sameValue(got, value(int(x.want))) {
			t.Errorf("%d: %s", x.depths, text(got))
		}
	}
	// It isn't the room's Top: what is no end may be deeper.
	events := base()
	events[1].Depth = 1000
	if got := field(t, drafts(t, newRoom(t, events...), message(bo)), "depth"); !sameValue(got, value(1)) {
		t.Error(text(got))
	}
}

// TestAuth: those that Now has for Select's pairs, in the order of these.
func TestAuth(t *testing.T) {
	keyless := join(ca)
	keyless.HasKey = false
	for _, x := range []struct {
		e    api.Event
		n    int // how many of the base's events the room has
		want string
	}{
		{message(al), 1, "c"}, {message(al), 2, "c a"}, {message(al), 3, "c l a"}, {message(al), 5, "c l a"}, {message(bo), 5, "c l b"}, {message(ca), 5, "c l"},
		{message(bo), 4, "c l"}, {message(bo), 1, "c"},
		{asked(createType, "", al), 5, ""}, {asked(createType, "k", al), 5, "c l a"},
		{asked(topicType, bo, al), 5, "c l a"}, {asked(levelsType, "", bo), 5, "c l b"}, {asked(rulesType, "", al), 5, "c l a"},
		{join(al), 1, "c"}, {join(bo), 3, "c l"}, {join(bo), 4, "c l j"}, {join(bo), 5, "c l j b"}, {join(ca), 5, "c l j"}, {keyless, 5, "c l j"},
		{asked(memberType, ca, al, "membership", "invite"), 5, "c l j a"}, {asked(memberType, bo, al, "membership", "invite"), 5, "c l j a b"},
		{asked(memberType, bo, al, "membership", "ban"), 5, "c l a b"}, {asked(memberType, bo, bo, "membership", "leave"), 5, "c l b"},
		{asked(memberType, al, bo, "membership", "leave"), 5, "c l b a"}, {asked(memberType, al, bo), 5, "c l b a"}, {asked(memberType, "", bo, "membership", "join"), 5, "c l j b"},
	} {
		r := newRoom(t, base()[:x.n]...)
		if v := drafts(t, r, x.e); list(t, v, "auth_events") != x.want {
			t.Errorf("%+v: %s", x.e, text(v))
		}
	}
}

// TestAuthByNow: the state of all ends counts, not that behind one, nor that behind the first twenty.
func TestAuthByNow(t *testing.T) {
	r := newRoom(t, base()...)
	r.Take(hung("m", levelsType, "", al, "b", "c a l", "users", fields(al, 100, bo, 60)))
	r.Take(said("n", "b", 0))
	if v := drafts(t, r, message(bo)); list(t, v, "auth_events") != "c m b" || list(t, v, "prev_events") != "m n" {
		t.Error(text(v))
	}
	r = withEnds(t, 25)
	r.Take(hung("m", levelsType, "", al, "b", "c a l", "users", fields(al, 100, bo, 60)))
	if v := drafts(t, r, message(bo)); list(t, v, "auth_events") != "c m b" || !strings.HasSuffix(list(t, v, "prev_events"), " e19") {
		t.Error(text(v))
	}
}

// config is a server with a key of its own.
func config(server string) api.Config {
	c := api.Config{Name: server, Key: "ed25519:k_1"}
	copy(c.Seed[:], "the seed of "+server)
	return c
}

// sealable is a draft that Seal takes.
func sealable() api.Value {
	return fields("type", "m.b", "room_id", room, "sender", al, "prev_events", []any{name(1), name(2)}, "auth_events", []any{name(3)}, "depth", 4, "origin_server_ts", 5, "content", fields("b", 1, "a", []any{2}))
}

// name is an event's name that ends in a number.
func name(n int) string { return fmt.Sprintf("$%043d", n) }

// seals asks Seal, and holds the answer against the layer below and against Go's own signatures.
func seals(t *testing.T, v api.Value, c api.Config) api.Event {
	t.Helper()
	e, err := make.Seal(v, c)
	if err != nil {
		t.Fatalf("Seal of %s: %v", text(v), err)
	}
	sealed, err := event.Seal(v, c.Name, c.Key, c.Seed)
	if err != nil {
		t.Fatal(err)
	}
	want, err := event.Parse(sealed)
	if err != nil || !sameValue(e.Raw, want.Raw) || !sameValue(e.Content, want.Content) {
		t.Fatalf("%s, %v", text(e.Raw), err)
	}
	e.Raw, e.Content, want.Raw, want.Content = api.Value{}, api.Value{}, api.Value{}, api.Value{}
	if !reflect.DeepEqual(e, want) {
		t.Fatalf("%+v, not %+v", e, want)
	}
	e, _ = make.Seal(v, c)
	private := ed25519.NewKeyFromSeed(c.Seed[:])
	if err := event.Check(e.Raw, c.Name, c.Key, private.Public().(ed25519.PublicKey)); err != nil {
		t.Fatalf("Check: %v", err)
	}
	signed, _ := event.Redact(e.Raw)
	signed, _ = canon.Without(signed, "signatures")
	sig := base64.RawStdEncoding.EncodeToString(ed25519.Sign(private, []byte(text(signed))))
	if got := field(t, field(t, field(t, e.Raw, "signatures"), c.Name), c.Key); got.Text != sig {
		t.Fatalf("%s, not %s", text(got), sig)
	}
	return e
}

// TestSeal is P19.3.
func TestSeal(t *testing.T) {
	e := seals(t, sealable(), config("x"))
	if e.Type != "m.b" || e.Room != room || e.Sender != al || e.HasKey || e.Key != "" || e.Depth != 4 || e.Stamp != 5 || !slices.Equal(e.Prev, []string{name(1), name(2)}) || !slices.Equal(e.Auth, []string{name(3)}) || text(e.Content) != `{"a":[2],"b":1}` {
		t.Errorf("%+v", e)
	}
	// Any server may; the sender's isn't asked for.
	other := seals(t, sealable(), config("y.z"))
	if other.ID != e.ID {
		t.Error("its name hangs on who seals it")
	}
	seals(t, with(sealable(), "state_key", value("k")), config("x"))
	seals(t, with(sealable(), "else", fields("a", 1)), config("x"))
	// Sealed once more it bears both signatures, and another hash is set right.
	both := seals(t, with(e.Raw, "hashes", value("wrong")), config("y"))
	if got := names(field(t, both.Raw, "signatures")); got != "x y" || both.ID != e.ID {
		t.Error(got)
	}
	for _, key := range []string{"ed25519:1", "ed25519:_", "ed25519:" + strings.Repeat("k", 16)} {
		for _, server := range goodServers {
			c := config(server)
			c.Key = key
			c.Peers = []api.Peer{{Name: "p", Key: "q", Public: []byte("r")}}
			seals(t, sealable(), c)
		}
	}
	seals(t, sealable(), api.Config{Name: "x", Key: "ed25519:0"})
}

// TestSealForm: whatever is amiss it is one error.
func TestSealForm(t *testing.T) {
	form := func(what string, v api.Value, c api.Config) {
		t.Helper()
		if e, err := make.Seal(v, c); err != api.ErrForm || !reflect.DeepEqual(e, api.Event{}) {
			t.Errorf("%s: %+v, %v", what, e.ID, err)
		}
	}
	for _, server := range badServers {
		c := config("x")
		c.Name = server
		form("server", sealable(), c)
	}
	for _, key := range []string{"", "ed25519:", "ed25519", "k", "ED25519:k", "ed25519:k:", "ed25519:-", "ed25519:" + strings.Repeat("k", 17)} {
		c := config("x")
		c.Key = key
		form("key", sealable(), c)
	}
	form("config", sealable(), api.Config{})
	for kind := -2; kind < 9; kind++ {
		form("kind", api.Value{Kind: kind}, config("x"))
	}
	form("list", value([]any{sealable()}), config("x"))
	for _, f := range sealable().Fields {
		form("without "+f.Name, with(sealable(), f.Name, none), config("x"))
		for _, bad := range []api.Value{{}, value(-1), value(""), value("a"), value([]any{"a"}), value([]any{name(1), name(1)}), {Kind: 9}, value(math.MaxInt64), value("\xff")} {
			if f.Name == "type" && bad.Text == "a" {
				continue
			}
			form("another "+f.Name, with(sealable(), f.Name, bad), config("x"))
		}
	}
	form("key's kind", with(sealable(), "state_key", value(1)), config("x"))
	form("twice", fields("a", 1, "a", 2), config("x"))
	form("too many prev", with(sealable(), "prev_events", nameList(21)), config("x"))
	form("too many auth", with(sealable(), "auth_events", nameList(11)), config("x"))
	form("signatures", with(sealable(), "signatures", fields("y", 1)), config("x"))
	for _, content := range oddContents() {
		if _, err := canon.Write(content); err != nil {
			form("content", with(sealable(), "content", content), config("x"))
		}
	}
}

// nameList is a list of so many events' names.
func nameList(n int) api.Value {
	l := api.Value{Kind: api.List}
	for i := range n {
		l.List = append(l.List, value(name(i)))
	}
	return l
}

// TestSealLength: an event's text, sealed, has at most 49152 bytes.
func TestSealLength(t *testing.T) {
	padded := func(n int) api.Value { return with(sealable(), "content", fields("a", strings.Repeat("b", n))) }
	whole := len(text(seals(t, padded(0), config("x")).Raw))
	e := seals(t, padded(49152-whole), config("x"))
	if n := len(text(e.Raw)); n != 49152 {
		t.Fatal(n)
	}
	for _, n := range []int{49153 - whole, 49152, 65536 - whole, 65537 - whole, 65536, 1 << 20} {
		if e, err := make.Seal(padded(n), config("x")); err != api.ErrForm || !reflect.DeepEqual(e, api.Event{}) {
			t.Errorf("%d: %q, %v", n, e.ID, err)
		}
	}
}
