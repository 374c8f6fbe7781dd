package keys_test

import (
	"fmt"
	"math"
	"slices"
	"strings"
	"testing"
	"time"

	"covey/api"
	"covey/event"
)

// message is a value of y's user, that isn't sealed.
func message() api.Value {
	return fields(
		"type", text("m.room.message"), "room_id", text("!R:x"), "sender", text("@al:y"), "prev_events", list(), "auth_events", list(),
		"depth", number(1), "origin_server_ts", number(20), "content", fields("body", text("é")), "unsigned", fields("age", number(1)),
	)
}

// sealed is a value with a hash and one more signature.
func sealed(t *testing.T, v api.Value, server, key string, n byte) api.Value {
	t.Helper()
	v, err := event.Seal(v, server, key, seed(n))
	if err != nil {
		t.Fatal(err)
	}
	return v
}

// of is the event that a sender sent at a stamp, whatever its value says.
func of(raw api.Value, sender string, at int64) api.Event {
	return api.Event{Sender: sender, Stamp: at, Raw: raw}
}

func TestCheckEvent(t *testing.T) {
	b := open(t, config())
	v := message()
	one, two := sealed(t, v, "y", "ed25519:1", 1), sealed(t, v, "y", "ed25519:2", 2)
	wrong := sealed(t, v, "y", "ed25519:1", 9)
	all := sealed(t, sealed(t, one, "y", "ed25519:2", 2), "z", "ed25519:1", 3)
	own := sealed(t, set(v, "sender", text("@me:x")), "x", "ed25519:1", 0)
	others := sealed(t, sealed(t, v, "y", "ed25519:0", 1), "y", "ed25519:3", 2)
	cases := []struct {
		what string
		e    api.Event
		want error
	}{
		{"one key", of(one, "@al:y", 20), nil},
		{"one key, ahead of its window", of(one, "@al:y", 9), api.ErrKey},
		{"one key, from its window on", of(one, "@al:y", 10), nil},
		{"one key, up to its window's end", of(one, "@al:y", 999), nil},
		{"one key, behind its window", of(one, "@al:y", 1000), api.ErrKey},
		{"one key, long ago", of(one, "@al:y", math.MinInt64), api.ErrKey},
		{"one key, far off", of(one, "@al:y", math.MaxInt64), api.ErrKey},
		{"the other key, too early", of(two, "@al:y", 20), api.ErrKey},
		{"the other key", of(two, "@al:y", 500), nil},
		{"both keys, the first is valid", of(all, "@al:y", 20), nil},
		{"both keys, both are valid", of(all, "@al:y", 600), nil},
		{"both keys, the second is valid", of(all, "@al:y", 1500), nil},
		{"both keys, none is valid", of(all, "@al:y", 2000), api.ErrKey},
		{"another server of those that signed", of(all, "@al:z", 2000), nil},
		{"the own server", of(own, "@me:x", 5), nil},
		{"the own server, at its end", of(own, "@me:x", maxInt), api.ErrKey},
		{"another seed", of(wrong, "@al:y", 20), api.ErrSign},
		{"another seed first, then the right one", of(sealed(t, wrong, "y", "ed25519:2", 2), "@al:y", 600), nil},
		{"the right one first, then another seed", of(sealed(t, one, "y", "ed25519:2", 9), "@al:y", 600), nil},
		{"two other seeds", of(sealed(t, wrong, "y", "ed25519:2", 8), "@al:y", 600), api.ErrSign},
		{"two keys one for the other", of(sealed(t, sealed(t, v, "y", "ed25519:1", 2), "y", "ed25519:2", 1), "@al:y", 600), api.ErrSign},
		{"another seed first, when only that is valid", of(sealed(t, wrong, "y", "ed25519:2", 2), "@al:y", 20), api.ErrSign},
		{"names that aren't known", of(others, "@al:y", 600), api.ErrKey},
		{"names that aren't known, and one that is", of(sealed(t, others, "y", "ed25519:2", 2), "@al:y", 600), nil},
		{"another server's signature", of(sealed(t, v, "z", "ed25519:1", 3), "@al:y", 20), api.ErrKey},
		{"a server that isn't known", of(sealed(t, v, "w", "ed25519:1", 1), "@al:w", 20), api.ErrKey},
		{"its key under another server", of(sealed(t, v, "z", "ed25519:1", 1), "@al:z", 20), api.ErrSign},
		{"another content", of(set(one, "content", fields()), "@al:y", 20), api.ErrHash},
		{"another content, and no key", of(set(one, "content", fields()), "@al:y", 5), api.ErrKey},
		{"another content, and another seed", of(set(wrong, "content", fields()), "@al:y", 20), api.ErrHash},
		{"no hashes", of(unset(one, "hashes"), "@al:y", 20), api.ErrHash},
		{"another unsigned", of(set(one, "unsigned", number(1)), "@al:y", 20), nil},
		{"what is no event, but sealed", of(sealed(t, fields("a", number(1)), "y", "ed25519:1", 1), "@al:y", 20), nil},
		{"no signatures", of(unset(one, "signatures"), "@al:y", 20), api.ErrKey},
		{"nothing", api.Event{}, api.ErrKey},
		{"no value", of(api.Value{}, "@al:y", 20), api.ErrKey},
	}
	for _, c := range cases {
		if err := b.event(c.e); err != c.want {
			t.Errorf("CheckEvent of %s: %v", c.what, err)
		}
	}
	e, err := event.Parse(one)
	if err != nil || b.event(e) != nil {
		t.Errorf("CheckEvent of what Parse gave: %v, %v", err, b.event(e))
	}
	b.agree()
}

// TestEventsOfOtherSenders: the sender that the event tells counts, not the one in its value.
func TestEventsOfOtherSenders(t *testing.T) {
	b := open(t, config())
	one := sealed(t, message(), "y", "ed25519:1", 1)
	for _, sender := range []string{"@bo:y", "@a/=._-:y"} {
		if err := b.event(of(one, sender, 20)); err != nil {
			t.Errorf("CheckEvent of %q: %v", sender, err)
		}
	}
	for _, sender := range []string{"", "y", "@:y", "@al", "@al:", "@Al:y", "al:y", ":y", "@al:Y", "@al:y ", "@al:y:y", "@al:x", "@al:z", "$" + strings.Repeat("a", 43), "ed25519:1", "@\xff:y", "@" + strings.Repeat("a", 33) + ":y"} {
		if err := b.event(of(one, sender, 20)); err != api.ErrKey {
			t.Errorf("CheckEvent of %q: %v", sender, err)
		}
	}
}

// TestOddSignatures: where no names of keys stand, none is looked at; what stands under a name that is known is event.Check's to tell.
func TestOddSignatures(t *testing.T) {
	b := open(t, config())
	one := sealed(t, message(), "y", "ed25519:1", 1)
	sig := get(one, "signatures", "y", "ed25519:1")
	odd := []api.Value{{}, {Kind: api.Bool}, number(1), text(sig.Text), list(sig), fields(), {Kind: 6}, {Kind: -1}}
	for kind := range 5 {
		odd = append(odd, api.Value{Kind: kind, Fields: fields("ed25519:1", sig, "y", fields("ed25519:1", sig)).Fields})
	}
	for _, w := range odd {
		for _, v := range []api.Value{set(one, "signatures", w), set(one, "signatures", fields("y", w)), set(one, "signatures", fields("y", w, "z", fields("ed25519:1", sig)))} {
			if err := b.event(of(v, "@al:y", 20)); err != api.ErrKey {
				t.Errorf("CheckEvent with %s: %v", brief(get(v, "signatures")), err)
			}
		}
	}
	for _, name := range []string{"", "1", "ed25519:", "ed25519:1 ", "ED25519:1", "\xff"} {
		if err := b.event(of(set(one, "signatures", fields("y", fields(name, sig))), "@al:y", 20)); err != api.ErrKey {
			t.Errorf("CheckEvent with a key %q: %v", name, err)
		}
	}
	for _, w := range []api.Value{{}, {Kind: api.Bool, Text: sig.Text}, number(1), list(sig), fields("ed25519:1", sig), text(""), text(sig.Text + "=="), text(sig.Text[:85]), text("?")} {
		if err := b.event(of(set(one, "signatures", fields("y", fields("ed25519:1", w))), "@al:y", 20)); err != api.ErrSign {
			t.Errorf("CheckEvent with a signature %s: %v", brief(w), err)
		}
		more := sealed(t, set(one, "signatures", fields("y", fields("ed25519:1", w, "a", number(1)))), "y", "ed25519:2", 2)
		if err := b.event(of(more, "@al:y", 600)); err != nil {
			t.Errorf("CheckEvent with a signature %s and another one: %v", brief(w), err)
		}
	}
}

// TestUntoldEvents: that a value can't be told is answered only when a key is looked at.
func TestUntoldEvents(t *testing.T) {
	b := open(t, config())
	one := sealed(t, message(), "y", "ed25519:1", 1)
	great := list(slices.Repeat([]api.Value{{Kind: 6}}, 65536)...)
	cases := []struct {
		v    api.Value
		want error
	}{
		{set(one, "x", api.Value{Kind: 6}), api.ErrForm}, {set(one, "x", text("\xff")), api.ErrForm}, {set(one, "x", number(maxInt+1)), api.ErrForm},
		{set(one, "x", great), api.ErrLong}, {padded(one, "x", 65537), api.ErrLong}, {padded(one, "unsigned", 65536), nil}, {padded(one, "x", 65536), api.ErrHash},
		{set(one, "signatures", fields("y", get(one, "signatures", "y"), "\xff", number(1))), api.ErrForm},
		{set(one, "signatures", fields("y", get(one, "signatures", "y"), "w", great)), api.ErrLong},
		{filled(one), nil},
	}
	for _, c := range cases {
		if err := b.event(of(c.v, "@al:y", 20)); err != c.want {
			t.Errorf("CheckEvent(%s): %v", brief(c.v), err)
		}
		if err := b.event(of(c.v, "@al:y", 5)); err != api.ErrKey {
			t.Errorf("CheckEvent(%s) too early: %v", brief(c.v), err)
		}
		if err := b.event(of(c.v, "@al:w", 20)); err != api.ErrKey {
			t.Errorf("CheckEvent(%s) of w: %v", brief(c.v), err)
		}
	}
	// Of names that stand twice the first counts, as in json.Get; and what has such can't be told.
	twice := one
	twice.Fields = append([]api.Field{{Name: "signatures", Value: fields()}}, one.Fields...)
	if err := b.event(of(twice, "@al:y", 20)); err != api.ErrKey {
		t.Errorf("CheckEvent with signatures twice, the first empty: %v", err)
	}
	twice.Fields = append(slices.Clone(one.Fields), api.Field{Name: "signatures", Value: fields()})
	if err := b.event(of(twice, "@al:y", 20)); err != api.ErrForm {
		t.Errorf("CheckEvent with signatures twice, the second empty: %v", err)
	}
	its := get(one, "signatures", "y")
	its.Fields = append(its.Fields, its.Fields...)
	if err := b.event(of(set(one, "signatures", fields("y", its)), "@al:y", 20)); err != api.ErrForm {
		t.Errorf("CheckEvent with a key twice: %v", err)
	}
}

// TestGreatEvents: a list that stands in many others, and they in many, is not gone through.
func TestGreatEvents(t *testing.T) {
	b := open(t, config())
	shared := list(number(1))
	for range 60 {
		shared = list(shared, shared)
	}
	one := sealed(t, message(), "y", "ed25519:1", 1)
	sig := get(one, "signatures", "y", "ed25519:1")
	begun := time.Now()
	for i, c := range []struct {
		signatures api.Value
		want       error
	}{
		{shared, api.ErrKey}, {fields("y", shared), api.ErrKey}, {fields("w", shared, "y", fields("a", shared)), api.ErrKey}, {fields("y", fields("ed25519:1", shared)), api.ErrLong}, {fields("w", shared, "y", fields("a", shared, "ed25519:1", sig)), api.ErrLong},
	} {
		if err := b.s.CheckEvent(of(set(one, "signatures", c.signatures), "@al:y", 20)); err != c.want {
			t.Errorf("CheckEvent of great signatures %d: %v", i, err)
		}
		if err := b.s.CheckEvent(of(set(set(one, "signatures", c.signatures), "x", shared), "@al:y", 5)); err != api.ErrKey {
			t.Errorf("CheckEvent of great signatures %d too early: %v", i, err)
		}
	}
	many := fields()
	for i := range 50000 {
		many.Fields = append(many.Fields, api.Field{Name: fmt.Sprintf("ed25519:%d", i%2+1), Value: sig})
	}
	if err := b.s.CheckEvent(of(set(one, "signatures", fields("y", many)), "@al:y", 600)); err != api.ErrForm {
		t.Errorf("CheckEvent of many signatures of two names: %v", err)
	}
	if gone := time.Since(begun); gone > time.Minute {
		t.Errorf("it took %v", gone)
	}
}
