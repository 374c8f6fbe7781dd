package event_test

import (
	"bytes"
	"crypto/ed25519"
	"fmt"
	"math"
	"math/rand"
	"reflect"
	"slices"
	"strings"
	"testing"
	"unsafe"

	"covey/api"
	"covey/event"
)

func number(n int64) api.Value      { return api.Value{Kind: api.Int, Int: n} }
func text(s string) api.Value       { return api.Value{Kind: api.Text, Text: s} }
func list(l ...api.Value) api.Value { return api.Value{Kind: api.List, List: l} }

// fields is an object of names and values, by turns.
func fields(l ...any) api.Value {
	v := api.Value{Kind: api.Object}
	for i := 0; i < len(l); i += 2 {
		v.Fields = append(v.Fields, api.Field{Name: l[i].(string), Value: l[i+1].(api.Value)})
	}
	return v
}

// set is an object with a field of that value.
func set(v api.Value, name string, w api.Value) api.Value {
	v = unset(v, name)
	v.Fields = append(v.Fields, api.Field{Name: name, Value: w})
	return v
}

// unset is an object without a field.
func unset(v api.Value, name string) api.Value {
	v.Fields = slices.DeleteFunc(slices.Clone(v.Fields), func(f api.Field) bool { return f.Name == name })
	return v
}

// get is a field's value, by a path of names.
func get(v api.Value, path ...string) api.Value {
	for _, name := range path {
		i := slices.IndexFunc(v.Fields, func(f api.Field) bool { return f.Name == name })
		if i < 0 {
			return api.Value{Kind: -1}
		}
		v = v.Fields[i].Value
	}
	return v
}

// alike tells whether two values are the same, whatever their empty lists are.
func alike(a, b api.Value) bool { return fmt.Sprintf("%#v", bare(a)) == fmt.Sprintf("%#v", bare(b)) }

// bare is a value in which empty lists are nil.
func bare(v api.Value) api.Value {
	l, f := v.List, v.Fields
	v.List, v.Fields = nil, nil
	for _, w := range l {
		v.List = append(v.List, bare(w))
	}
	for _, w := range f {
		v.Fields = append(v.Fields, api.Field{Name: w.Name, Value: bare(w.Value)})
	}
	return v
}

// bareEvent is an event in which empty lists are nil.
func bareEvent(e api.Event) api.Event {
	e.Prev, e.Auth = append([]string(nil), e.Prev...), append([]string(nil), e.Auth...)
	e.Content, e.Raw = bare(e.Content), bare(e.Raw)
	return e
}

func brief(v any) string {
	s := fmt.Sprintf("%+v", v)
	return s[:min(len(s), 400)]
}

// name is an event's name that ends in a number.
func name(n int) string { return fmt.Sprintf("$%043d", n) }

// nameList is a list of so many events' names.
func nameList(n int) api.Value {
	l := list()
	for i := range n {
		l.List = append(l.List, text(name(i)))
	}
	return l
}

// whole is an event whose fields are in no order.
func whole() api.Value {
	return fields(
		"type", text("m.room.message"), "room_id", text("!R:x"), "sender", text("@al:x.y"), "state_key", text("k"),
		"prev_events", nameList(2), "auth_events", nameList(3), "depth", number(7), "origin_server_ts", number(9),
		"content", fields("b", number(1), "a", list(fields("z", text("é"), "y", number(2)))),
		"hashes", fields("sha256", text("h")), "signatures", fields("x", fields("ed25519:1", text("s"))),
		"unsigned", fields("age", number(1)), "else", number(3),
	)
}

// needed are the fields that an event can't be without.
var needed = []string{"type", "room_id", "sender", "prev_events", "auth_events", "depth", "origin_server_ts", "content", "hashes", "signatures"}

// seed is one of some seeds, public the key of one.
func seed(n byte) [32]byte { return [32]byte{n, 3: 200 - n, 31: n * 7} }

func public(s [32]byte) []byte { return ed25519.NewKeyFromSeed(s[:]).Public().(ed25519.PublicKey) }

// parses asks Parse, and holds it against the oracle.
func parses(t *testing.T, v api.Value) {
	t.Helper()
	e, err := event.Parse(v)
	want, wantErr := oracleParse(v)
	if err != wantErr || !reflect.DeepEqual(bareEvent(e), bareEvent(want)) {
		t.Fatalf("Parse(%s): %s, %v; not %s, %v", brief(v), brief(e), err, brief(want), wantErr)
	}
	if err != nil && !reflect.DeepEqual(e, api.Event{}) {
		t.Fatalf("Parse(%s): %v beside an error", brief(v), brief(e))
	}
}

// redacts asks Redact, ContentHash and ID.
func redacts(t *testing.T, v api.Value) {
	t.Helper()
	r, err := event.Redact(v)
	h, errH := event.ContentHash(v)
	id, errI := event.ID(v)
	o, wantErr := oracleForm(v)
	if err != wantErr || errH != wantErr || errI != wantErr {
		t.Fatalf("Redact, ContentHash, ID of %s: %v, %v, %v; not %v", brief(v), err, errH, errI, wantErr)
	}
	if wantErr != nil {
		if !reflect.DeepEqual(r, api.Value{}) || h != "" || id != "" {
			t.Fatalf("Redact, ContentHash, ID of %s: %s, %s, %s beside an error", brief(v), brief(r), h, id)
		}
		return
	}
	if want := value(oracleRedact(o)); !alike(r, want) {
		t.Fatalf("Redact(%s): %s; not %s", brief(v), brief(r), brief(want))
	}
	if h != oracleHash(o) || id != oracleID(o) {
		t.Fatalf("ContentHash, ID of %s: %s, %s; not %s, %s", brief(v), h, id, oracleHash(o), oracleID(o))
	}
}

// seals asks Seal; what it answers, and whether it is no error.
func seals(t *testing.T, v api.Value, server, key string, seed [32]byte) (api.Value, bool) {
	t.Helper()
	s, err := event.Seal(v, server, key, seed)
	want, wantErr := oracleSeal(v, server, key, seed)
	if err != wantErr || !alike(s, want) {
		t.Fatalf("Seal(%s, %q, %q): %s, %v; not %s, %v", brief(v), server, key, brief(s), err, brief(want), wantErr)
	}
	return s, err == nil
}

// checks asks Check, and holds it against the oracle.
func checks(t *testing.T, v api.Value, server, key string, public []byte) error {
	t.Helper()
	err := event.Check(v, server, key, public)
	if want := oracleCheck(v, server, key, public); err != want {
		t.Fatalf("Check(%s, %q, %q): %v; not %v", brief(v), server, key, err, want)
	}
	return err
}

// holds asks all calls of a value.
func holds(t *testing.T, v api.Value) {
	t.Helper()
	parses(t, v)
	redacts(t, v)
	checks(t, v, "x", "ed25519:1", public(seed(1)))
	if s, ok := seals(t, v, "x", "ed25519:1", seed(1)); ok {
		if err := checks(t, s, "x", "ed25519:1", public(seed(1))); err != nil {
			t.Fatalf("Check of Seal(%s): %v", brief(v), err)
		}
		parses(t, s)
		redacts(t, s)
	}
}

func TestExamples(t *testing.T) {
	if h, err := event.ContentHash(fields()); h != "RBNvo1WzZ4oRRq0W9+hknpT7T8If536DEMBg9hyq/4o" || err != nil {
		t.Errorf("ContentHash: %s, %v", h, err)
	}
	v := fields("type", text("m.room.member"), "content", fields("membership", text("join"), "x", number(1)), "y", number(2))
	if r, err := event.Redact(v); err != nil || !alike(r, fields("content", fields("membership", text("join")), "type", text("m.room.member"))) {
		t.Errorf("Redact: %v, %v", r, err)
	}
	if r, err := event.Redact(fields("content", number(5))); err != nil || !alike(r, fields("content", fields())) {
		t.Errorf("Redact of a content 5: %v, %v", r, err)
	}
	if r, err := event.Redact(number(7)); err != api.ErrForm || !alike(r, api.Value{}) {
		t.Errorf("Redact of 7: %v, %v", r, err)
	}
	if e, err := event.Parse(fields()); err != api.ErrForm || !reflect.DeepEqual(e, api.Event{}) {
		t.Errorf("Parse of nothing: %v, %v", e, err)
	}
	s, err := event.Seal(fields("a", number(1)), "x", "ed25519:1", seed(0))
	if err != nil {
		t.Fatal(err)
	}
	if err := event.Check(s, "x", "ed25519:1", public(seed(0))); err != nil {
		t.Errorf("Check: %v", err)
	}
	if err := event.Check(s, "x", "ed25519:1", public(seed(1))); err != api.ErrSign {
		t.Errorf("Check by another key: %v", err)
	}
	if err := event.Check(set(s, "a", number(2)), "x", "ed25519:1", public(seed(0))); err != api.ErrHash {
		t.Errorf("Check with a being 2: %v", err)
	}
}

// TestParseTells writes out what Parse tells of one event, without the oracle.
func TestParseTells(t *testing.T) {
	e, err := event.Parse(whole())
	if err != nil {
		t.Fatal(err)
	}
	content := fields("a", list(fields("y", number(2), "z", text("é"))), "b", number(1))
	id, _ := event.ID(whole())
	want := api.Event{
		ID: id, Type: "m.room.message", Room: "!R:x", Sender: "@al:x.y", HasKey: true, Key: "k",
		Prev: []string{name(0), name(1)}, Auth: []string{name(0), name(1), name(2)}, Depth: 7, Stamp: 9, Content: content,
		Raw: fields("auth_events", nameList(3), "content", content, "depth", number(7), "else", number(3), "hashes", fields("sha256", text("h")),
			"origin_server_ts", number(9), "prev_events", nameList(2), "room_id", text("!R:x"), "sender", text("@al:x.y"),
			"signatures", fields("x", fields("ed25519:1", text("s"))), "state_key", text("k"), "type", text("m.room.message"), "unsigned", fields("age", number(1))),
	}
	if !reflect.DeepEqual(bareEvent(e), bareEvent(want)) {
		t.Errorf("Parse: %+v; not %+v", e, want)
	}
	for _, key := range []string{"", "k"} {
		if e, err := event.Parse(set(whole(), "state_key", text(key))); err != nil || !e.HasKey || e.Key != key {
			t.Errorf("Parse with the key %q: %v, %q, %v", key, e.HasKey, e.Key, err)
		}
	}
	if e, err := event.Parse(unset(whole(), "state_key")); err != nil || e.HasKey || e.Key != "" {
		t.Errorf("Parse without a key: %v, %q, %v", e.HasKey, e.Key, err)
	}
}

// good and bad are values of fields with which an event still is one, and no longer is.
func good() map[string][]api.Value {
	all := strings.Repeat("a", 255)
	reversed := nameList(20)
	slices.Reverse(reversed.List)
	many := fields()
	for i := range 30 {
		many = set(many, fmt.Sprintf("s%d", i), fields("ed25519:1", text(""), "ed25519:Z_9", text("é\n")))
	}
	return map[string][]api.Value{
		"type":             {text("t"), text(all), text(all[:254]), text("m.room.create"), text("é"), text(" "), text("\x00"), text(strings.Repeat("é", 127) + "a")},
		"room_id":          {text("!R:x"), text("!" + strings.Repeat("Z", 32) + ":" + strings.Repeat("z", 64)), text("!_-:a.b")},
		"sender":           {text("@a:x"), text("@" + strings.Repeat("z", 32) + ":" + strings.Repeat("z", 64)), text("@a/=._-:a.b")},
		"state_key":        {text(""), text("@a:x"), text(all), text(strings.Repeat("é", 127)), text("\n")},
		"prev_events":      {list(), nameList(1), nameList(19), nameList(20), reversed, list(text("$" + strings.Repeat("Z_-9", 10) + "abc"))},
		"auth_events":      {list(), nameList(1), nameList(9), nameList(10)},
		"depth":            {number(0), number(1), number(1<<53 - 1)},
		"origin_server_ts": {number(0), number(1), number(1<<53 - 1), number(1 << 40)},
		"content":          {fields(), fields("b", number(1), "a", fields()), fields("", api.Value{})},
		"hashes":           {fields("sha256", text("")), fields("sha256", text("x"), "md5", number(1)), fields("a", list(), "sha256", text("é"))},
		"signatures":       {fields(), fields("x", fields()), fields("b", fields(), "a.c", fields("ed25519:1", text(""))), many},
	}
}

func bad() map[string][]api.Value {
	kinds := []api.Value{{}, {Kind: api.Bool, Bool: true}, {Kind: api.Bool}, list(text("a")), fields("a", text("a"))}
	ofText := append([]api.Value{number(0), number(1), list(), fields()}, kinds...)
	ofNumber := append([]api.Value{number(-1), number(-(1<<53 - 1)), text("1"), text("0"), text(""), list(), fields()}, kinds...)
	ofObject := append([]api.Value{number(0), text(""), text("{}"), list()}, kinds[:4]...)
	ofList := append([]api.Value{number(0), text(""), text(name(1)), fields(), fields("0", text(name(1)))}, kinds...)
	for _, s := range []string{"", "a", "$", name(1)[:43], name(1) + "0", "!R:x", "$" + strings.Repeat("+", 43), "$" + strings.Repeat("é", 21) + "a"} {
		ofList = append(ofList, list(text(s)), list(text(name(1)), text(s)), list(text(s), text(name(1))))
	}
	ofList = append(ofList, list(number(1)), list(list()), list(text(name(1)), api.Value{}), list(text(name(1)), text(name(1))), list(text(name(1)), text(name(2)), text(name(1))), list(text(name(2)), text(name(1)), text(name(1))))
	return map[string][]api.Value{
		"type":             append([]api.Value{text(""), text(strings.Repeat("a", 256)), text(strings.Repeat("é", 128))}, ofText...),
		"room_id":          append([]api.Value{text(""), text("R"), text("!R"), text("!:x"), text("!R:"), text("@a:x"), text("!R:X"), text(name(1)), text("!R:x:y"), text("x"), text("ed25519:1"), text("!" + strings.Repeat("Z", 33) + ":x"), text("!R:" + strings.Repeat("z", 65))}, ofText...),
		"sender":           append([]api.Value{text(""), text("a"), text("@a"), text("@:x"), text("@a:"), text("!R:x"), text("@A:x"), text(name(1)), text("x"), text("@" + strings.Repeat("z", 33) + ":x"), text("@a:" + strings.Repeat("z", 65))}, ofText...),
		"state_key":        append([]api.Value{text(strings.Repeat("a", 256)), text(strings.Repeat("é", 128))}, ofText...),
		"prev_events":      append([]api.Value{nameList(21), nameList(22), nameList(40), {Kind: api.List, List: append(nameList(19).List, text(name(0)))}}, ofList...),
		"auth_events":      append([]api.Value{nameList(11), nameList(12), nameList(20), {Kind: api.List, List: append(nameList(9).List, text(name(8)))}}, ofList...),
		"depth":            ofNumber,
		"origin_server_ts": ofNumber,
		"content":          ofObject,
		"hashes":           append([]api.Value{fields(), fields("sha256", number(1)), fields("sha256", api.Value{}), fields("sha256", list(text("a"))), fields("sha256", fields()), fields("sha512", text("a")), fields("SHA256", text("a")), list(text("sha256"))}, ofObject...),
		"signatures": append([]api.Value{
			fields("", fields()), fields("X", fields()), fields("a..b", fields()), fields("@a:x", fields()), fields(strings.Repeat("z", 65), fields()),
			fields("x", text("")), fields("x", list()), fields("x", api.Value{}), fields("x", number(0)),
			fields("x", fields("", text(""))), fields("x", fields("1", text(""))), fields("x", fields("ed25519:", text(""))), fields("x", fields("ed25519:a-b", text(""))), fields("x", fields("rsa:1", text(""))), fields("x", fields("ed25519:"+strings.Repeat("Z", 17), text(""))),
			fields("x", fields("ed25519:1", number(1))), fields("x", fields("ed25519:1", api.Value{})), fields("x", fields("ed25519:1", list())), fields("x", fields("ed25519:1", fields())),
			fields("x", fields("ed25519:1", text("")), "y", text("")), fields("x", text(""), "y", fields("ed25519:1", text(""))), fields("x", fields("ed25519:1", text(""), "a", text(""))), fields("x", fields("a", text(""), "ed25519:1", text(""))), fields("x", fields("ed25519:1", text(""), "ed25519:2", number(1))),
		}, ofObject...),
	}
}

func TestGoodFields(t *testing.T) {
	for name, values := range good() {
		for _, w := range values {
			v := set(whole(), name, w)
			if _, err := event.Parse(v); err != nil {
				t.Errorf("Parse with %s %s: %v", name, brief(w), err)
			}
			holds(t, v)
		}
	}
}

func TestBadFields(t *testing.T) {
	for name, values := range bad() {
		for _, w := range values {
			v := set(whole(), name, w)
			if e, err := event.Parse(v); err != api.ErrForm || !reflect.DeepEqual(e, api.Event{}) {
				t.Errorf("Parse with %s %s: %v, %v", name, brief(w), brief(e), err)
			}
			parses(t, v)
			redacts(t, v)
		}
	}
	for _, name := range needed {
		parses(t, unset(whole(), name))
		if _, err := event.Parse(unset(whole(), name)); err != api.ErrForm {
			t.Errorf("Parse without %s: %v", name, err)
		}
	}
	for _, v := range []api.Value{{}, {Kind: api.Bool}, number(7), text("m.room.create"), list(), list(whole()), fields("event", whole())} {
		if _, err := event.Parse(v); err != api.ErrForm {
			t.Errorf("Parse(%s): %v", brief(v), err)
		}
		holds(t, v)
	}
}

// padded is an object with a text in a field, so that its text has so many bytes.
func padded(v api.Value, name string, bytes int) api.Value {
	have := len(written(tree(set(v, name, text("")), 0)))
	if have > bytes {
		panic("padded: too long already")
	}
	return set(v, name, text(strings.Repeat("p", bytes-have)))
}

func TestLongEvents(t *testing.T) {
	for _, name := range []string{"unsigned", "else", "x"} {
		for _, n := range []int{2000, 49151, 49152} {
			v := padded(whole(), name, n)
			if _, err := event.Parse(v); err != nil {
				t.Errorf("Parse of %d bytes: %v", n, err)
			}
			holds(t, v)
		}
		for _, n := range []int{49153, 49154, 60000, 65535, 65536} {
			v := padded(whole(), name, n)
			if e, err := event.Parse(v); err != api.ErrLong || !reflect.DeepEqual(e, api.Event{}) {
				t.Errorf("Parse of %d bytes: %v", n, err)
			}
			holds(t, v)
		}
	}
	// Its length comes ahead of its form, and that it can't be told ahead of its length.
	for n, want := range map[int]error{49152: api.ErrForm, 49153: api.ErrLong, 65537: api.ErrLong} {
		for _, v := range []api.Value{text(strings.Repeat("a", n-2)), list(text(strings.Repeat("a", n-4))), padded(fields(), "a", n), padded(unset(whole(), "type"), "a", n)} {
			if _, err := event.Parse(v); err != want {
				t.Errorf("Parse of %s of %d bytes: %v", brief(v), n, err)
			}
			holds(t, v)
		}
	}
	for _, n := range []int{49153, 65536, 65537, 70000} {
		v := set(padded(whole(), "x", n), "y", number(1<<53))
		if _, err := event.Parse(v); err != api.ErrForm {
			t.Errorf("Parse of %d bytes that can't be told: %v", n, err)
		}
		holds(t, v)
	}
}

// untold are values that can't be told.
func untold() []api.Value {
	deep := number(1)
	for range 33 {
		deep = list(deep)
	}
	return []api.Value{
		text("\xff"), number(1 << 53), number(-1 << 53), number(math.MinInt64), {Kind: 6}, {Kind: -1}, {Kind: math.MaxInt}, deep,
		fields("a", number(1), "a", number(1)), fields("\xc3", number(1)), list(text("\xed\xa0\x80")),
	}
}

func TestWhatCantBeTold(t *testing.T) {
	for _, w := range untold() {
		for _, v := range []api.Value{w, list(w), fields("a", w), set(whole(), "unsigned", w), set(whole(), "else", w), set(whole(), "signatures", w), set(whole(), "hashes", w), set(whole(), "content", w), set(whole(), "type", w), set(whole(), "content", fields("a", list(w)))} {
			holds(t, v)
			for _, err := range []error{parseErr(v), redactErr(v), sealErr(v, "x", "ed25519:1"), event.Check(v, "x", "ed25519:1", nil)} {
				if err != api.ErrForm {
					t.Errorf("%s: %v", brief(v), err)
				}
			}
			if err := sealErr(v, "X", "ed25519:1"); err != api.ErrArg {
				t.Errorf("Seal for X of %s: %v", brief(v), err)
			}
		}
	}
	twice := whole()
	twice.Fields = append(twice.Fields, api.Field{Name: "type", Value: text("t")})
	holds(t, twice)
	great := list(slices.Repeat([]api.Value{{Kind: 6}}, 65536)...)
	for _, v := range []api.Value{great, fields("a", great), list(great, great), padded(fields(), "a", 65537), text(strings.Repeat("a", 65535)), list(text(strings.Repeat("a", 70000)))} {
		holds(t, v)
		for _, err := range []error{parseErr(v), redactErr(v), sealErr(v, "x", "ed25519:1"), event.Check(v, "x", "ed25519:1", nil)} {
			if err != api.ErrLong {
				t.Errorf("%s: %v", brief(v), err)
			}
		}
	}
}

func parseErr(v api.Value) error  { _, err := event.Parse(v); return err }
func redactErr(v api.Value) error { _, err := event.Redact(v); return err }
func sealErr(v api.Value, server, key string) error {
	_, err := event.Seal(v, server, key, seed(1))
	return err
}

// TestUnusedParts: what a Kind doesn't use changes nothing.
func TestUnusedParts(t *testing.T) {
	v := fill(whole())
	holds(t, v)
	a, errA := event.Parse(v)
	b, errB := event.Parse(whole())
	if errA != nil || errB != nil || !reflect.DeepEqual(bareEvent(a), bareEvent(b)) {
		t.Errorf("Parse with unused parts: %+v, %v; not %+v, %v", a, errA, b, errB)
	}
	odd := fill(text("m.room.create"))
	odd.Fields = fields("sha256", text("x"), "x", fields("ed25519:1", text("a"))).Fields
	odd.Int = 3
	for _, name := range append(needed, "state_key") {
		holds(t, set(whole(), name, odd))
		for _, kind := range []int{api.Null, api.Bool, api.Int, api.List} {
			odd.Kind = kind
			holds(t, set(whole(), name, odd))
		}
	}
	holds(t, odd)
}

// fill is v with something in all that its kinds don't use.
func fill(v api.Value) api.Value {
	full := api.Value{Kind: v.Kind, Bool: true, Int: math.MinInt64, Text: "\xff", List: []api.Value{{Kind: 9}}, Fields: []api.Field{{Name: "\xff"}, {Name: "\xff"}}}
	switch v.Kind {
	case api.Bool:
		full.Bool = v.Bool
	case api.Int:
		full.Int = v.Int
	case api.Text:
		full.Text = v.Text
	case api.List:
		full.List = nil
		for _, w := range v.List {
			full.List = append(full.List, fill(w))
		}
	case api.Object:
		full.Fields = nil
		for _, f := range v.Fields {
			full.Fields = append(full.Fields, api.Field{Name: f.Name, Value: fill(f.Value)})
		}
	}
	return full
}

// contentNames are names of contents' fields, those that some types keep among them.
var contentNames = []string{"", "membership", "join_rule", "ban", "events", "events_default", "invite", "kick", "redact", "state_default", "users", "users_default", "Ban", "ban ", "redacts", "type", "content", "creator", "a", "é", "notifications", "join_rules", "m.room.member"}

// TestKeptContents writes out the chapter's table, and asks every type for every name.
func TestKeptContents(t *testing.T) {
	content := fields()
	for i, n := range contentNames {
		content = set(content, n, fields("b", number(int64(i)), "a", list()))
	}
	want := map[string]string{
		"m.room.create":       " membership join_rule ban events events_default invite kick redact state_default users users_default Ban redacts type content creator a é notifications join_rules m.room.member ",
		"m.room.member":       " membership ",
		"m.room.join_rules":   " join_rule ",
		"m.room.power_levels": " ban events events_default invite kick redact state_default users users_default ",
		"m.room.message":      "", "m.room.topic": "", "": "", "m.room.create ": "", "M.room.create": "", "m.room.members": "", "m.room": "", "é": "",
	}
	for kind, names := range want {
		v := set(set(whole(), "type", text(kind)), "content", content)
		holds(t, v)
		r, err := event.Redact(v)
		if err != nil {
			t.Fatal(err)
		}
		for _, n := range contentNames {
			stays := kind == "m.room.create" || among(names, n)
			if is := get(r, "content", n).Kind != -1; is != stays {
				t.Errorf("%q of a content of %q stays: %v", n, kind, is)
			}
		}
	}
	for _, kind := range []api.Value{{}, number(1), list(text("m.room.create")), fields("m.room.create", text("m.room.create")), {Kind: api.Bool, Text: "m.room.create"}} {
		v := set(set(whole(), "type", kind), "content", content)
		if r, err := event.Redact(v); err != nil || !alike(get(r, "content"), fields()) {
			t.Errorf("content of a type %s: %s, %v", brief(kind), brief(get(r, "content")), err)
		}
		holds(t, v)
	}
	v := unset(set(whole(), "content", content), "type")
	if r, err := event.Redact(v); err != nil || !alike(get(r, "content"), fields()) {
		t.Errorf("content without a type: %s, %v", brief(get(r, "content")), err)
	}
	holds(t, v)
}

func TestKeptFields(t *testing.T) {
	eleven := strings.Fields("type room_id sender state_key prev_events auth_events depth origin_server_ts content hashes signatures")
	others := []string{"", "unsigned", "redacts", "event_id", "origin", "prev_state", "membership", "Type", "type ", "types", "é", "room", "auth", "sha256", "\"\\\n\x01", "\U0010ffff"}
	values := []api.Value{{}, {Kind: api.Bool, Bool: true}, number(-3), text("m.room.create"), list(number(2), number(1)), fields("b", number(1), "a", number(2))}
	for _, w := range values {
		v := fields()
		for _, n := range append(slices.Clone(others), eleven...) {
			v = set(v, n, w)
		}
		r, err := event.Redact(v)
		if err != nil || len(r.Fields) != len(eleven) {
			t.Fatalf("Redact: %s, %v", brief(r), err)
		}
		holds(t, v)
		for _, n := range append(slices.Clone(others), eleven...) {
			holds(t, fields(n, w))
			r, err := event.Redact(fields(n, w))
			if err != nil || len(r.Fields) == 1 != slices.Contains(eleven, n) {
				t.Errorf("Redact of a field %q: %s, %v", n, brief(r), err)
			}
		}
	}
	for _, w := range append(values[:5], text(""), number(0), list()) {
		for _, kind := range []string{"m.room.create", "m.room.member", "a"} {
			if r, err := event.Redact(fields("content", w, "type", text(kind))); err != nil || !alike(get(r, "content"), fields()) {
				t.Errorf("Redact of a content %s: %s, %v", brief(w), brief(r), err)
			}
		}
	}
}

// TestGrownContent: a content that was one digit is longer by a byte, redacted; nothing says that this is an error.
func TestGrownContent(t *testing.T) {
	for _, n := range []int{65534, 65535, 65536} {
		for _, w := range []api.Value{number(5), number(15), number(-5), text(""), list(), api.Value{}, fields()} {
			v := padded(fields("content", w), "type", n)
			redacts(t, v)
			if r, err := event.Redact(v); err != nil || !alike(get(r, "content"), fields()) {
				t.Errorf("Redact of %d bytes: %v", n, err)
			}
			if _, err := event.ID(v); err != nil {
				t.Errorf("ID of %d bytes: %v", n, err)
			}
			if err := sealErr(v, "x", "ed25519:1"); err != api.ErrLong {
				t.Errorf("Seal of %d bytes: %v", n, err)
			}
		}
	}
}

// TestWhatIsHashed: which fields bear on the hash, and which on the name.
func TestWhatIsHashed(t *testing.T) {
	h, _ := event.ContentHash(whole())
	id, _ := event.ID(whole())
	if len(h) != 43 || strings.ContainsAny(h, "-_=") || len(id) != 44 || id[0] != '$' || strings.ContainsAny(id[1:], "+/=$") {
		t.Errorf("%s, %s", h, id)
	}
	for _, n := range append(slices.Clone(needed), "state_key", "unsigned", "else", "new") {
		for _, v := range []api.Value{unset(whole(), n), set(whole(), n, api.Value{}), set(whole(), n, fields("new", text("x")))} {
			if alike(v, whole()) {
				continue
			}
			same := n == "signatures" || n == "hashes" || n == "unsigned"
			if g, err := event.ContentHash(v); err != nil || g == h != same {
				t.Errorf("ContentHash with another %s: %s, %v", n, g, err)
			}
			r, _ := event.Redact(unset(v, "signatures"))
			s, _ := event.Redact(unset(whole(), "signatures"))
			if g, err := event.ID(v); err != nil || g == id != alike(r, s) {
				t.Errorf("ID with another %s: %s, %v", n, g, err)
			}
		}
	}
	shuffled := whole()
	slices.Reverse(shuffled.Fields)
	if g, _ := event.ContentHash(shuffled); g != h {
		t.Errorf("ContentHash in another order: %s", g)
	}
	if g, _ := event.ID(shuffled); g != id {
		t.Errorf("ID in another order: %s", g)
	}
	if g, _ := event.ID(set(whole(), "content", fields("c", number(5)))); g != id {
		t.Errorf("ID of a message with another content: %s", g)
	}
	if g, _ := event.ID(set(whole(), "hashes", fields("sha256", text("g")))); g == id {
		t.Error("ID with another hash: the same")
	}
}

// TestHashAlphabets looks for sums whose letters tell the two alphabets apart.
func TestHashAlphabets(t *testing.T) {
	plain, url := false, false
	for i := range int64(60) {
		v := fields("depth", number(i))
		redacts(t, v)
		h, _ := event.ContentHash(v)
		id, _ := event.ID(v)
		plain = plain || strings.ContainsAny(h, "+/")
		url = url || strings.ContainsAny(id, "-_")
	}
	if !plain || !url {
		t.Errorf("letters beside those of both alphabets: %v, %v", plain, url)
	}
}

func TestSealNames(t *testing.T) {
	servers := []string{"x", "a.example", strings.Repeat("z", 64), "", "X", "a..b", "-a", strings.Repeat("z", 65), "@a:x", "x ", "\xff", "é"}
	keys := []string{"ed25519:1", "ed25519:Z_9", "ed25519:" + strings.Repeat("Z", 16), "", "ed25519:", "1", "ed25519:a-b", "ed25519:" + strings.Repeat("Z", 17), "\xff"}
	values := []api.Value{whole(), fields(), number(7), {Kind: 6}, text(strings.Repeat("a", 70000)), list(slices.Repeat([]api.Value{{Kind: 6}}, 65536)...)}
	for i, server := range servers {
		for j, key := range keys {
			for _, v := range values {
				seals(t, v, server, key, seed(2))
				if err := sealErr(v, server, key); (err == api.ErrArg) != (i >= 3 || j >= 3) {
					t.Errorf("Seal(%s, %q, %q): %v", brief(v), server, key, err)
				}
			}
		}
	}
}

func TestSealed(t *testing.T) {
	odd := []api.Value{{}, {Kind: api.Bool}, number(1), text("a"), list(), fields(), fields("sha256", text("h"), "md5", text("m"))}
	for _, w := range odd {
		s, _ := seals(t, set(whole(), "hashes", w), "x", "ed25519:1", seed(1))
		h, _ := event.ContentHash(whole())
		if !alike(get(s, "hashes"), fields("sha256", text(h))) {
			t.Errorf("hashes: %s", brief(get(s, "hashes")))
		}
		seals(t, set(whole(), "signatures", w), "x", "ed25519:1", seed(1))
		seals(t, set(whole(), "signatures", fields("y", fields("a", text("b")), "x", w, "a", number(1))), "x", "ed25519:1", seed(1))
		seals(t, set(whole(), "signatures", fields("x", fields("ed25519:2", text("b"), "ed25519:1", w, "\U0010ffff", number(1), "\uffff", text("")))), "x", "ed25519:1", seed(1))
		seals(t, fields("content", w), "x", "ed25519:1", seed(1))
		seals(t, fields("type", w, "\uffff", number(1), "\U0010ffff", number(1), "i", number(1), "h", number(2), "", number(1), "z", number(1)), "x", "ed25519:1", seed(1))
	}
	seals(t, unset(unset(whole(), "hashes"), "signatures"), "x", "ed25519:1", seed(1))
	s, _ := seals(t, set(whole(), "signatures", fields("y", fields("k", number(1)), "x", fields("ed25519:2", text("b"), "ed25519:1", text("old")))), "x", "ed25519:1", seed(1))
	if get(s, "signatures", "y", "k").Int != 1 || get(s, "signatures", "x", "ed25519:2").Text != "b" || len(get(s, "signatures", "x", "ed25519:1").Text) != 86 || len(get(s, "signatures").Fields) != 2 {
		t.Errorf("signatures: %s", brief(get(s, "signatures")))
	}
	again, _ := seals(t, s, "x", "ed25519:1", seed(1))
	if !alike(again, s) {
		t.Errorf("sealed twice: %s", brief(again))
	}
}

// TestSealedLengths: the sealed value may be too long, though the value wasn't; and short, though it was long with its old signatures.
func TestSealedLengths(t *testing.T) {
	s, _ := seals(t, fields("a", text("")), "x", "ed25519:1", seed(1))
	added := len(written(tree(s, 0))) - len(written(tree(fields("a", text("")), 0)))
	for n, want := range map[int]error{65536 - added: nil, 65536 - added + 1: api.ErrLong, 65536: api.ErrLong, 65537: api.ErrLong} {
		v := padded(fields(), "a", n)
		s, err := event.Seal(v, "x", "ed25519:1", seed(1))
		if err != want || err != nil && !alike(s, api.Value{}) {
			t.Errorf("Seal of %d bytes: %s, %v", n, brief(s), err)
		}
		holds(t, v)
		v = padded(fields("content", number(1)), "type", n)
		if err := sealErr(v, "x", "ed25519:1"); err != want {
			t.Errorf("Seal of a content of %d bytes: %v", n, err)
		}
		holds(t, v)
	}
	for _, n := range []int{65400, 65536} {
		for _, v := range []api.Value{padded(fields("a", number(1)), "signatures", n), padded(fields("a", number(1)), "hashes", n), fields("signatures", padded(fields("y", number(1)), "x", n-15)), fields("signatures", fields("x", padded(fields("y", number(1)), "ed25519:1", n-21))), padded(fields("a", number(1)), "unsigned", n)} {
			holds(t, v)
		}
		v := padded(fields("a", number(1)), "signatures", n)
		if s, err := event.Seal(v, "x", "ed25519:1", seed(1)); err != nil || event.Check(s, "x", "ed25519:1", public(seed(1))) != nil {
			t.Errorf("Seal of old signatures of %d bytes: %v", n, err)
		}
	}
}

func TestCheck(t *testing.T) {
	s, _ := seals(t, whole(), "x", "ed25519:1", seed(1))
	p := public(seed(1))
	sum, sig := get(s, "hashes", "sha256").Text, get(s, "signatures", "x", "ed25519:1").Text
	odd := []api.Value{{}, {Kind: api.Bool, Text: sum}, number(1), list(text(sum)), text("")}
	expect := func(what string, v api.Value, server, key string, public []byte, want error) {
		t.Helper()
		if err := checks(t, v, server, key, public); err != want {
			t.Errorf("Check with %s: %v", what, err)
		}
	}
	expect("nothing changed", s, "x", "ed25519:1", p, nil)
	for _, w := range append(odd, fields(), fields("sha512", text(sum)), text(sum)) {
		expect("other hashes", set(s, "hashes", w), "x", "ed25519:1", p, api.ErrHash)
	}
	for _, w := range append(odd, fields("sha256", text(sum)), text(sum+"A"), text(sum[1:]), text(sum+"="), text(" "+sum)) {
		expect("another sum", set(s, "hashes", fields("sha256", w)), "x", "ed25519:1", p, api.ErrHash)
	}
	expect("no hashes", unset(s, "hashes"), "x", "ed25519:1", p, api.ErrHash)
	expect("more hashes", set(s, "hashes", fields("sha256", text(sum), "md5", text("a"))), "x", "ed25519:1", p, api.ErrSign)
	for _, w := range append(odd, fields(), fields("y", fields("ed25519:1", text(sig))), text(sig)) {
		expect("other signatures", set(s, "signatures", w), "x", "ed25519:1", p, api.ErrSign)
		expect("another server's", set(s, "signatures", fields("x", w)), "x", "ed25519:1", p, api.ErrSign)
	}
	for _, w := range append(odd, fields("a", text(sig)), text(sig+"A"), text(sig+"="), text(sig[:85]), text(sig[:84]), text(" "+sig), text(sig+"\n"), text(sig[:40]+"\n"+sig[40:]), text("-"+sig[1:]), text(sig[:85]+"B"), text("A"+sig[1:]), text(strings.Repeat("A", 86))) {
		expect("another signature", set(s, "signatures", fields("x", fields("ed25519:1", w))), "x", "ed25519:1", p, api.ErrSign)
	}
	expect("no signatures", unset(s, "signatures"), "x", "ed25519:1", p, api.ErrSign)
	for _, server := range []string{"", "y", "X", "x ", "\xff"} {
		expect("another server", s, server, "ed25519:1", p, api.ErrSign)
	}
	for _, key := range []string{"", "ed25519:2", "1", "\xff"} {
		expect("another key", s, "x", key, p, api.ErrSign)
	}
	for _, q := range [][]byte{nil, {}, p[:31], append(slices.Clone(p), 0), public(seed(2)), make([]byte, 32), bytes.Repeat([]byte{255}, 32)} {
		expect("another public key", s, "x", "ed25519:1", q, api.ErrSign)
	}
	for _, n := range append(slices.Clone(needed), "state_key", "else", "new") {
		if n != "hashes" && n != "signatures" {
			expect("another "+n, set(s, n, text("?")), "x", "ed25519:1", p, api.ErrHash)
		}
	}
	expect("another unsigned", set(s, "unsigned", text("?")), "x", "ed25519:1", p, nil)
	expect("no unsigned", unset(s, "unsigned"), "x", "ed25519:1", p, nil)
}

// TestCheckAsksNoNames: what no server or key could be called is still found, since Check looks for a field alone.
func TestCheckAsksNoNames(t *testing.T) {
	s, _ := seals(t, whole(), "x", "ed25519:1", seed(1))
	sig := get(s, "signatures", "x", "ed25519:1")
	for _, n := range [][2]string{{"", ""}, {"X", "k"}, {"é", "\n"}} {
		v := set(s, "signatures", fields(n[0], fields(n[1], sig)))
		if err := checks(t, v, n[0], n[1], public(seed(1))); err != nil {
			t.Errorf("Check for %q, %q: %v", n[0], n[1], err)
		}
	}
}

// TestRedactedHash: what is redacted bears a hash of more than is left of it, but its signature holds.
func TestRedactedHash(t *testing.T) {
	s, _ := seals(t, whole(), "x", "ed25519:1", seed(1))
	r, err := event.Redact(s)
	if err != nil {
		t.Fatal(err)
	}
	if err := checks(t, r, "x", "ed25519:1", public(seed(1))); err != api.ErrHash {
		t.Errorf("Check of a redacted message: %v", err)
	}
	create := unset(unset(set(whole(), "type", text("m.room.create")), "else"), "unsigned")
	s, _ = seals(t, create, "x", "ed25519:1", seed(1))
	if r, err = event.Redact(s); err != nil || !alike(r, s) {
		t.Fatalf("Redact: %s, %v", brief(r), err)
	}
	if err := checks(t, r, "x", "ed25519:1", public(seed(1))); err != nil {
		t.Errorf("Check of a redacted create: %v", err)
	}
}

func TestWhatFollows(t *testing.T) {
	chance := rand.New(rand.NewSource(1))
	for range 50 {
		v := someEvent(chance)
		for i := range byte(3) {
			s, ok := seals(t, v, fmt.Sprintf("s%d", i%2), fmt.Sprintf("ed25519:%d", i), seed(i))
			if !ok {
				t.Fatalf("Seal(%s)", brief(v))
			}
			v = s
		}
		changed := set(v, "unsigned", fields("n", number(chance.Int63n(100))))
		for i := range byte(3) {
			for _, w := range []api.Value{v, changed} {
				if err := checks(t, w, fmt.Sprintf("s%d", i%2), fmt.Sprintf("ed25519:%d", i), public(seed(i))); err != nil {
					t.Fatalf("Check of %s by %d: %v", brief(w), i, err)
				}
			}
		}
		redactedEvent(t, v)
	}
}

// redactedEvent holds what P14.6 says of an event that is redacted.
func redactedEvent(t *testing.T, v api.Value) {
	t.Helper()
	e, err := event.Parse(v)
	if err != nil {
		t.Fatalf("Parse(%s): %v", brief(v), err)
	}
	r, err := event.Redact(v)
	if err != nil {
		t.Fatal(err)
	}
	f, err := event.Parse(r)
	if err != nil || f.ID != e.ID {
		t.Fatalf("Parse of a redacted event: %s, %v; not %s", f.ID, err, e.ID)
	}
	again, err := event.Redact(r)
	if err != nil || !alike(again, r) {
		t.Fatalf("redacted twice: %s, %v; not %s", brief(again), err, brief(r))
	}
	o, _ := oracleForm(v)
	p, _ := oracleForm(r)
	if !bytes.Equal(oracleSigned(o), oracleSigned(p)) || !alike(get(r, "signatures"), get(e.Raw, "signatures")) {
		t.Fatalf("what is signed of a redacted event: %s; not %s", oracleSigned(p), oracleSigned(o))
	}
}

// pick is one of some.
func pick[T any](chance *rand.Rand, l ...T) T { return l[chance.Intn(len(l))] }

// someValue is a value by chance, mostly one that can be told.
func someValue(chance *rand.Rand, deep int) api.Value {
	switch n := chance.Intn(10); {
	case n < 2:
		return number(pick(chance, 0, 1, -1, 5, chance.Int63(), chance.Int63n(1<<53)))
	case n < 5:
		return text(pick(chance, "", "a", "é😀", "\"\\\n\x01", "join", name(chance.Intn(9)), "x", "@a:x", "!R:x", pick(chance, "b", "b", "b", "\xff")))
	case n < 6:
		return api.Value{Kind: api.Bool, Bool: chance.Intn(2) == 0}
	case n < 7 || deep == 0:
		return api.Value{Kind: pick(chance, 0, 0, 0, 0, 0, 0, 0, 0, 0, 6)}
	case n < 8:
		v := list()
		for range chance.Intn(4) {
			v.List = append(v.List, someValue(chance, deep-1))
		}
		return v
	}
	v := fields()
	for range chance.Intn(5) {
		v = set(v, pick(chance, append(contentNames, "x", "ed25519:1", "sha256", "unsigned")...), someValue(chance, deep-1))
	}
	return v
}

// someEvent is an event by chance.
func someEvent(chance *rand.Rand) api.Value {
	all := good()
	v := whole()
	for _, n := range append(slices.Clone(needed), "state_key") {
		if chance.Intn(2) == 0 {
			v = set(v, n, pick(chance, all[n]...))
		}
	}
	if chance.Intn(3) == 0 {
		v = unset(v, "state_key")
	}
	v = set(v, "type", text(pick(chance, "m.room.create", "m.room.member", "m.room.join_rules", "m.room.power_levels", "m.room.topic")))
	content := fields()
	for range chance.Intn(8) {
		content = set(content, pick(chance, contentNames...), text("x"))
	}
	v = set(v, "content", content)
	chance.Shuffle(len(v.Fields), func(i, j int) { v.Fields[i], v.Fields[j] = v.Fields[j], v.Fields[i] })
	return v
}

func TestChance(t *testing.T) {
	chance := rand.New(rand.NewSource(2))
	wrong := bad()
	for range 200 {
		v := someEvent(chance)
		for range chance.Intn(3) {
			n := pick(chance, append(slices.Clone(needed), "state_key", "unsigned", "else")...)
			switch chance.Intn(3) {
			case 0:
				v = set(v, n, someValue(chance, 3))
			case 1:
				v = unset(v, n)
			default:
				if l := wrong[n]; l != nil {
					v = set(v, n, pick(chance, l...))
				}
			}
		}
		holds(t, v)
		holds(t, someValue(chance, 4))
	}
}

// TestMarredSeals: a sealed value with one thing changed checks as the oracle says.
func TestMarredSeals(t *testing.T) {
	chance := rand.New(rand.NewSource(3))
	told := map[error]int{}
	for range 250 {
		s, _ := seals(t, someEvent(chance), "x", "ed25519:1", seed(1))
		switch n := pick(chance, append(slices.Clone(needed), "state_key", "unsigned", "else")...); chance.Intn(4) {
		case 0:
			s = set(s, n, someValue(chance, 2))
		case 1:
			s = unset(s, n)
		case 2:
			s = set(s, "hashes", fields("sha256", get(s, "hashes", "sha256"), "b", someValue(chance, 1)))
		default:
			sig := []byte(get(s, "signatures", "x", "ed25519:1").Text)
			sig[chance.Intn(len(sig))] = pick(chance, []byte("ABab01+/-=")...)
			s = set(s, "signatures", fields("x", fields("ed25519:1", text(string(sig)))))
		}
		told[checks(t, s, "x", "ed25519:1", public(seed(1)))]++
	}
	if told[nil] == 0 || told[api.ErrHash] == 0 || told[api.ErrSign] == 0 {
		t.Errorf("answers: %v", told)
	}
}

// copied is a value in memory of its own.
func copied(v api.Value) api.Value {
	w := v
	w.List, w.Fields = slices.Clone(v.List), slices.Clone(v.Fields)
	for i := range w.List {
		w.List[i] = copied(w.List[i])
	}
	for i := range w.Fields {
		w.Fields[i].Value = copied(w.Fields[i].Value)
	}
	return w
}

// spoil changes all that a value holds in memory: its lists and fields.
func spoil(v api.Value) {
	for _, w := range v.List {
		spoil(w)
	}
	for _, f := range v.Fields {
		spoil(f.Value)
	}
	for i := range v.List[:cap(v.List)] {
		v.List[:cap(v.List)][i] = text("spoilt")
	}
	for i := range v.Fields[:cap(v.Fields)] {
		v.Fields[:cap(v.Fields)][i] = api.Field{Name: "spoilt", Value: number(13)}
	}
}

// spare is a value whose lists have room behind them.
func spare(v api.Value) api.Value {
	w := v
	w.List, w.Fields = append(make([]api.Value, 0, len(v.List)+3), v.List...), append(make([]api.Field, 0, len(v.Fields)+3), v.Fields...)
	for i := range w.List {
		w.List[i] = spare(w.List[i])
	}
	for i := range w.Fields {
		w.Fields[i].Value = spare(w.Fields[i].Value)
	}
	return w
}

func TestMemory(t *testing.T) {
	create := set(whole(), "type", text("m.room.create"))
	v := spare(create)
	before := copied(v)
	p := public(seed(1))
	e, errE := event.Parse(v)
	r, errR := event.Redact(v)
	s, errS := event.Seal(v, "x", "ed25519:2", seed(1))
	event.Check(v, "x", "ed25519:1", p)
	if errE != nil || errR != nil || errS != nil {
		t.Fatal(errE, errR, errS)
	}
	if !alike(v, before) || !bytes.Equal(p, public(seed(1))) {
		t.Fatal("an argument was changed")
	}
	wantE, wantR, wantS := fmt.Sprintf("%+v", e), fmt.Sprintf("%+v", r), fmt.Sprintf("%+v", s)
	spoil(v)
	if fmt.Sprintf("%+v", e) != wantE || fmt.Sprintf("%+v", r) != wantR || fmt.Sprintf("%+v", s) != wantS {
		t.Error("an answer shares memory with an argument")
	}
	raw, content := fmt.Sprintf("%+v", e.Raw), fmt.Sprintf("%+v", e.Content)
	spoil(e.Content)
	if fmt.Sprintf("%+v", e.Raw) != raw {
		t.Error("Content shares memory with Raw")
	}
	e, _ = event.Parse(create)
	spoil(e.Raw)
	if fmt.Sprintf("%+v", e.Content) != content {
		t.Error("Raw shares memory with Content")
	}
	e, _ = event.Parse(create)
	prev, auth := append(e.Prev[:len(e.Prev):cap(e.Prev)], "$a"), append(e.Auth[:len(e.Auth):cap(e.Auth)], "$b")
	prev[0], auth[0] = "$c", "$d"
	if fmt.Sprintf("%+v", e.Raw) != raw {
		t.Error("Prev or Auth shares memory with Raw")
	}
}

// TestTextsAreNew: no text of an answer lies in the memory of one that was handed in.
func TestTextsAreNew(t *testing.T) {
	held := [][]byte{}
	hold := func(s string) string {
		b := append([]byte(nil), s...)
		if len(b) == 0 {
			return ""
		}
		held = append(held, b)
		return unsafe.String(&b[0], len(b))
	}
	var made func(v api.Value) api.Value
	made = func(v api.Value) api.Value {
		v = copied(v)
		v.Text = hold(v.Text)
		for i := range v.List {
			v.List[i] = made(v.List[i])
		}
		for i := range v.Fields {
			v.Fields[i] = api.Field{Name: hold(v.Fields[i].Name), Value: made(v.Fields[i].Value)}
		}
		return v
	}
	v := made(set(whole(), "type", text("m.room.create")))
	server, key := hold("y"), hold("ed25519:3")
	e, _ := event.Parse(v)
	r, _ := event.Redact(v)
	s, _ := event.Seal(v, server, key, seed(1))
	want := strings.Clone(fmt.Sprintf("%+v%+v%+v", e, r, s))
	for _, b := range held {
		for i := range b {
			b[i] = '?'
		}
	}
	if got := fmt.Sprintf("%+v%+v%+v", e, r, s); got != want {
		t.Errorf("an answer's texts changed: %s", got)
	}
}
