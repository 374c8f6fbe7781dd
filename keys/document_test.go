package keys_test

import (
	"bytes"
	"crypto/ed25519"
	"encoding/base64"
	"fmt"
	"maps"
	"math"
	"math/rand"
	"slices"
	"strings"
	"testing"

	"covey/api"
)

// keyOf is what stands for a seed's key in a document.
func keyOf(n byte) api.Value { return fields("key", text(letters(public(seed(n))))) }

// document is one of y, of three keys, whose fields are in no order; it isn't signed.
func document() api.Value {
	return fields(
		"verify_keys", fields("ed25519:new", keyOf(11), "ed25519:1", keyOf(12), "ed25519:a", set(keyOf(13), "b", list(number(1)))),
		"valid_until_ts", number(900), "server_name", text("y"), "valid_from_ts", number(20), "else", fields("b", number(1), "a", text("é")),
		"unsigned", fields("age", number(1)), "signatures", fields(),
	)
}

// signature is a seed's signature of a document that can be told.
func signature(doc api.Value, n byte) string {
	return letters(ed25519.Sign(private(seed(n)), docSigned(tree(doc, 0).(object))))
}

// signed is a document with one more signature.
func signed(doc api.Value, server, key string, n byte) api.Value {
	all := get(doc, "signatures")
	its := get(all, server)
	its.Kind, all.Kind = api.Object, api.Object
	return set(doc, "signatures", set(all, server, set(its, key, text(signature(doc, n)))))
}

func TestTake(t *testing.T) {
	b := open(t, config())
	doc := signed(document(), "y", "ed25519:1", 1)
	if err := b.check(doc); err != nil {
		t.Fatalf("Check: %v", err)
	}
	if err := b.find("y", "ed25519:new", 20); err != api.ErrKey {
		t.Errorf("Check took a key: %v", err)
	}
	if err := b.take(doc); err != nil {
		t.Fatalf("Take: %v", err)
	}
	b.agree()
	for key, n := range map[string]byte{"ed25519:new": 11, "ed25519:a": 13} {
		for at, want := range map[int64]error{19: api.ErrKey, 20: nil, 899: nil, 900: api.ErrKey} {
			k, err := b.s.Find("y", key, at)
			if err != want || err == nil && !bytes.Equal(k, public(seed(n))) {
				t.Errorf("Find of %s at %d: %x, %v", key, at, k, err)
			}
		}
	}
	for at, want := range map[int64]error{9: api.ErrKey, 10: nil, 999: nil, 1000: api.ErrKey} {
		k, err := b.s.Find("y", "ed25519:1", at)
		if err != want || err == nil && !bytes.Equal(k, public(seed(1))) {
			t.Errorf("Find of a key that was known, at %d: %x, %v", at, k, err)
		}
	}
	// Taken again, and with another window and other keys of the same names: all stays.
	other := set(set(document(), "valid_until_ts", number(5000)), "verify_keys", fields("ed25519:new", keyOf(21), "ed25519:a", keyOf(22)))
	for _, doc := range []api.Value{doc, signed(other, "y", "ed25519:1", 1), signed(other, "y", "ed25519:new", 11)} {
		if err := b.take(doc); err != nil {
			t.Errorf("Take: %v", err)
		}
		b.agree()
	}
}

// TestLearntKeySigns: a key that a document told signs the next one, within its window alone.
func TestLearntKeySigns(t *testing.T) {
	for from, want := range map[int64]error{19: api.ErrSign, 20: nil, 899: nil, 900: api.ErrSign} {
		b := open(t, config())
		b.take(signed(document(), "y", "ed25519:1", 1))
		next := set(set(set(document(), "verify_keys", fields("ed25519:next", keyOf(14))), "valid_from_ts", number(from)), "valid_until_ts", number(3000))
		next = signed(next, "y", "ed25519:new", 11)
		if err := open(t, config()).take(next); err != api.ErrSign {
			t.Errorf("Take ahead of the document that tells its key: %v", err)
		}
		if err := b.take(next); err != want {
			t.Errorf("Take of a document from %d on: %v", from, err)
		}
		b.agree()
		if err := b.find("y", "ed25519:next", 2999); (err == nil) != (want == nil) {
			t.Errorf("Find of a key of the next document from %d on: %v", from, err)
		}
	}
}

// goodOf and badOf are values of fields with which a document still is one, and no longer is.
func goodOf() map[string][]api.Value {
	eight, all := fields(), fields()
	for i := range 8 {
		eight = set(eight, fmt.Sprintf("ed25519:k%d", i), keyOf(byte(30+i)))
	}
	for i := range 30 {
		all = set(all, fmt.Sprintf("s%d", i), fields("ed25519:1", text(""), "ed25519:Z_9", text("é\n")))
	}
	zeros := fields("key", text(strings.Repeat("A", 43)))
	return map[string][]api.Value{
		"valid_from_ts":  {number(10), number(500), number(899)},
		"valid_until_ts": {number(21), number(maxInt)},
		"verify_keys": {
			eight, fields("ed25519:1", keyOf(1)), fields("ed25519:1", keyOf(40)), fields("ed25519:"+strings.Repeat("Z", 16), keyOf(41)), fields("ed25519:n", zeros),
			fields("ed25519:n", fields("a", number(1), "key", text(letters(public(seed(5)))), "z", api.Value{})), fields("ed25519:n", fields("key", text(letters(bytes.Repeat([]byte{255}, 32))))),
		},
		"signatures": {fields(), fields("x", fields()), fields("y", fields()), fields("b", fields(), "a.c", fields("ed25519:1", text("?"))), all},
		"unsigned":   {{}, number(1), text(""), fields("a", number(1))},
		"else":       {{}, number(1), text("\n"), list(fields("b", number(1), "a", number(2)))},
	}
}

func badOf() map[string][]api.Value {
	kinds := []api.Value{{}, {Kind: api.Bool, Bool: true}, {Kind: api.Bool, Int: 1}, list(text("a")), list()}
	ofText := append([]api.Value{number(0), number(1), fields(), fields("a", text("a"))}, kinds...)
	ofNumber := append([]api.Value{number(-1), number(-maxInt), text("1"), text("0"), text(""), fields()}, kinds...)
	ofObject := append([]api.Value{number(0), text(""), text("{}")}, kinds...)
	nine := fields()
	for i := range 9 {
		nine = set(nine, fmt.Sprintf("ed25519:k%d", i), keyOf(byte(30+i)))
	}
	key := letters(public(seed(5)))
	m := map[string][]api.Value{
		"valid_from_ts":  append([]api.Value{number(900), number(901), number(maxInt)}, ofNumber...),
		"valid_until_ts": append([]api.Value{number(20), number(19), number(0)}, ofNumber...),
		"verify_keys":    append([]api.Value{fields(), nine, keyOf(1)}, ofObject...),
		"signatures":     append([]api.Value{fields("", fields()), fields("Y", fields()), fields("x", text("")), fields("x", list()), fields("x", fields("a", text(""))), fields("x", fields("ed25519:1", number(1))), fields("x", fields("ed25519:1", api.Value{})), fields("x", fields("ed25519:1", fields())), fields("x", fields("ed25519:", text(""))), fields(strings.Repeat("z", 65), fields())}, ofObject...),
	}
	for _, name := range []string{"", "Y", "a..b", "-y", "@a:y", "y ", strings.Repeat("z", 65), "!R:y", "é"} {
		m["server_name"] = append(m["server_name"], text(name))
	}
	m["server_name"] = append(m["server_name"], ofText...)
	for _, name := range []string{"", "1", "ed25519:", "ed25519:a-b", "ed25519:" + strings.Repeat("Z", 17), "rsa:1", "key"} {
		m["verify_keys"] = append(m["verify_keys"], fields(name, keyOf(1)), fields("ed25519:1", keyOf(1), name, keyOf(2)), fields(name, keyOf(1), "ed25519:1", keyOf(2)))
	}
	odd := append(ofText, text(""), text(key[:42]), text(key+"A"), text(key+"="), text(" "+key), text(key+"\n"), text(key[:20]+"\n"+key[20:]), text("-"+strings.Repeat("A", 42)), text(strings.Repeat("A", 42)+"B"), text(letters(make([]byte, 31))), text(letters(make([]byte, 33))), text(letters(make([]byte, 64))))
	for _, w := range odd {
		m["verify_keys"] = append(m["verify_keys"], fields("ed25519:1", fields("key", w)), fields("ed25519:1", keyOf(1), "ed25519:2", fields("key", w)), fields("ed25519:1", fields("key", w), "ed25519:2", keyOf(1)))
	}
	for _, w := range append(ofObject, fields(), fields("Key", text(key)), text(key), list(text("key"), text(key))) {
		m["verify_keys"] = append(m["verify_keys"], fields("ed25519:1", w), fields("ed25519:1", keyOf(1), "ed25519:2", w))
	}
	return m
}

func TestGoodDocuments(t *testing.T) {
	for name, values := range goodOf() {
		for _, w := range values {
			b := open(t, config())
			doc := signed(set(document(), name, w), "y", "ed25519:1", 1)
			if err := b.take(doc); err != nil {
				t.Errorf("Take with %s %s: %v", name, brief(w), err)
			}
			b.agree()
		}
	}
	b := open(t, config())
	for _, name := range []string{"unsigned", "else"} {
		if err := b.check(signed(unset(document(), name), "y", "ed25519:1", 1)); err != nil {
			t.Errorf("Check without %s: %v", name, err)
		}
	}
	for _, server := range []string{strings.Repeat("z", 64), "a-b.c"} {
		b := open(t, api.Config{Name: "x", Key: "ed25519:1", Peers: []api.Peer{peer(server, "ed25519:1", 1, 0, 50)}})
		if err := b.take(signed(set(document(), "server_name", text(server)), server, "ed25519:1", 1)); err != nil {
			t.Errorf("Take of %q: %v", server, err)
		}
		b.agree()
	}
	zero := signed(set(set(set(document(), "server_name", text("z")), "valid_from_ts", number(0)), "valid_until_ts", number(1)), "z", "ed25519:1", 3)
	if err := b.take(zero); err != nil {
		t.Errorf("Take of a document from 0 on: %v", err)
	}
	b.agree()
}

// TestBadDocuments: a document of another form is refused, whosever it is, and however signed.
func TestBadDocuments(t *testing.T) {
	b := open(t, config())
	refused := func(what string, doc api.Value) {
		t.Helper()
		if err := b.take(doc); err != api.ErrForm {
			t.Errorf("Take with %s: %v", what, err)
		}
	}
	for name, values := range badOf() {
		for _, w := range values {
			doc := set(document(), name, w)
			if name != "signatures" {
				doc = signed(doc, "y", "ed25519:1", 1)
			} else if w.Kind == api.Object {
				doc = signed(doc, "y", "ed25519:1", 1)
			}
			refused(name+" "+brief(w), doc)
			if name != "server_name" {
				refused("the own name, and "+name+" "+brief(w), set(doc, "server_name", text("x")))
			}
		}
	}
	for _, name := range []string{"server_name", "valid_from_ts", "valid_until_ts", "verify_keys"} {
		refused("no "+name, signed(unset(document(), name), "y", "ed25519:1", 1))
	}
	refused("no signatures", unset(document(), "signatures"))
	for _, v := range []api.Value{{}, {Kind: api.Bool}, number(7), text("y"), list(), fields(), list(signed(document(), "y", "ed25519:1", 1))} {
		refused("what is none: "+brief(v), v)
	}
	b.agree()
	if n := len(b.m.known); n != 4 {
		t.Errorf("%d keys are known", n)
	}
}

func TestUntoldDocuments(t *testing.T) {
	b := open(t, config())
	deep := number(1)
	for range 33 {
		deep = list(deep)
	}
	good := signed(document(), "y", "ed25519:1", 1)
	twice := good
	twice.Fields = append(slices.Clone(good.Fields), good.Fields[0])
	for _, w := range []api.Value{text("\xff"), number(maxInt + 1), number(math.MinInt64), {Kind: 6}, {Kind: -1}, deep, fields("a", number(1), "a", number(1)), fields("\xff", number(1))} {
		for _, v := range []api.Value{w, set(good, "unsigned", w), set(good, "else", w), set(good, "signatures", w), set(good, "verify_keys", w), set(good, "server_name", w), set(good, "valid_from_ts", w), set(good, "valid_until_ts", w)} {
			if err := b.take(v); err != api.ErrForm {
				t.Errorf("Take(%s): %v", brief(v), err)
			}
		}
	}
	if err := b.take(twice); err != api.ErrForm {
		t.Errorf("Take with a field twice: %v", err)
	}
	great := list(slices.Repeat([]api.Value{{Kind: 6}}, 65536)...)
	shared := great
	for range 60 {
		shared = list(shared, shared)
	}
	for _, v := range []api.Value{great, shared, set(good, "unsigned", great), set(good, "else", shared), text(strings.Repeat("a", 65535)), padded(good, "unsigned", 65537), padded(fields(), "a", 65537), padded(set(good, "server_name", text("x")), "a", 65537)} {
		if err := b.take(v); err != api.ErrLong {
			t.Errorf("Take(%s): %v", brief(v), err)
		}
	}
	if err := b.check(padded(good, "unsigned", 65536)); err != nil {
		t.Errorf("Check of 65536 bytes: %v", err)
	}
	if err := b.check(padded(fields(), "a", 65536)); err != api.ErrForm {
		t.Errorf("Check of 65536 bytes that are none: %v", err)
	}
	b.agree()
}

// padded is an object with a text in a field, so that its text has so many bytes.
func padded(v api.Value, name string, bytes int) api.Value {
	have := len(written(tree(set(v, name, text("")), 0)))
	return set(v, name, text(strings.Repeat("p", bytes-have)))
}

// TestOwnDocuments: those of the server itself are refused ahead of their signatures, and whatever room there is.
func TestOwnDocuments(t *testing.T) {
	for _, peers := range [][]api.Peer{nil, config().Peers, manyPeers(63)} {
		b := open(t, api.Config{Name: "x", Key: "ed25519:1", Seed: seed(0), Peers: peers})
		own := set(document(), "server_name", text("x"))
		for _, doc := range []api.Value{b.doc(5), own, signed(own, "x", "ed25519:1", 0), signed(own, "x", "ed25519:1", 1)} {
			if err := b.take(doc); err != api.ErrState {
				t.Errorf("Take of an own document: %v", err)
			}
		}
		b.agree()
		if err := b.find("x", "ed25519:new", 20); err != api.ErrKey {
			t.Errorf("Find of an own key of a document: %v", err)
		}
	}
}

// TestDocumentSigners: by which keys a document may be signed.
func TestDocumentSigners(t *testing.T) {
	doc := document()
	one, other := signed(doc, "y", "ed25519:1", 1), signed(doc, "y", "ed25519:1", 9)
	later := set(doc, "valid_from_ts", number(500))
	sig := get(one, "signatures", "y", "ed25519:1").Text
	url := base64.RawURLEncoding.EncodeToString
	with := func(s string) api.Value {
		return set(doc, "signatures", fields("y", fields("ed25519:1", text(s))))
	}
	raw, _ := fromLetters(sig)
	cases := []struct {
		what string
		doc  api.Value
		want error
	}{
		{"none", doc, api.ErrSign},
		{"a known key", one, nil},
		{"a known key, and others", signed(signed(signed(one, "y", "ed25519:0", 8), "y", "ed25519:zz", 8), "w", "ed25519:1", 8), nil},
		{"another seed", other, api.ErrSign},
		{"another key's name", signed(doc, "y", "ed25519:3", 1), api.ErrSign},
		{"a key of the document itself", signed(doc, "y", "ed25519:new", 11), api.ErrSign},
		{"the document's own key of a known name", signed(doc, "y", "ed25519:1", 12), api.ErrSign},
		{"a key that isn't valid yet", signed(doc, "y", "ed25519:2", 2), api.ErrSign},
		{"a key that isn't valid yet, and one that is", signed(one, "y", "ed25519:2", 2), nil},
		{"a key that is valid later", signed(later, "y", "ed25519:2", 2), nil},
		{"the second of two, the first is wrong", signed(signed(later, "y", "ed25519:1", 9), "y", "ed25519:2", 2), nil},
		{"the first of two, the second is wrong", signed(signed(later, "y", "ed25519:1", 1), "y", "ed25519:2", 9), nil},
		{"both wrong", signed(signed(later, "y", "ed25519:1", 2), "y", "ed25519:2", 1), api.ErrSign},
		{"another server's key", signed(doc, "z", "ed25519:1", 3), api.ErrSign},
		{"its key, under another server", signed(doc, "z", "ed25519:1", 1), api.ErrSign},
		{"the asked server's key", signed(doc, "x", "ed25519:1", 0), api.ErrSign},
		{"a key that is valid still", signed(set(doc, "valid_from_ts", number(899)), "y", "ed25519:1", 1), nil},
		{"a key ahead of its window", signed(set(doc, "valid_from_ts", number(9)), "y", "ed25519:1", 1), api.ErrSign},
		{"a key at its window's beginning", signed(set(doc, "valid_from_ts", number(10)), "y", "ed25519:1", 1), nil},
		{"a key at its window's end", signed(set(set(doc, "valid_from_ts", number(999)), "valid_until_ts", number(1e6)), "y", "ed25519:1", 1), nil},
		{"a key behind its window", signed(set(set(doc, "valid_from_ts", number(1000)), "valid_until_ts", number(1e6)), "y", "ed25519:1", 1), api.ErrSign},
		{"something else changed", set(one, "else", number(1)), api.ErrSign},
		{"something else gone", unset(one, "else"), api.ErrSign},
		{"something new", set(one, "new", number(1)), api.ErrSign},
		{"its end changed", set(one, "valid_until_ts", number(901)), api.ErrSign},
		{"its keys changed", set(one, "verify_keys", fields("ed25519:new", keyOf(9))), api.ErrSign},
		{"unsigned changed", set(one, "unsigned", number(1)), nil},
		{"unsigned gone", unset(one, "unsigned"), nil},
		{"no letters", with(""), api.ErrSign},
		{"a letter less", with(sig[:85]), api.ErrSign},
		{"two letters less", with(sig[:84]), api.ErrSign},
		{"a letter more", with(sig + "A"), api.ErrSign},
		{"padding", with(sig + "=="), api.ErrSign},
		{"a line's end", with(sig + "\n"), api.ErrSign},
		{"other letters' bits in the filling", with(sig[:85] + string(sig[85]+1)), api.ErrSign},
		{"a byte less", with(letters(raw[:63])), api.ErrSign},
		{"a byte more", with(letters(append(slices.Clone(raw), 0))), api.ErrSign},
	}
	for _, c := range cases {
		if err := open(t, config()).take(c.doc); err != c.want {
			t.Errorf("Take, signed by %s: %v", c.what, err)
		}
	}
	// A signature whose letters are not the same in the two alphabets.
	for i := int64(0); ; i++ {
		doc := set(doc, "else", number(i))
		sig, _ := fromLetters(signature(doc, 1))
		if url(sig) != letters(sig) {
			if err := open(t, config()).take(set(doc, "signatures", fields("y", fields("ed25519:1", text(url(sig)))))); err != api.ErrSign {
				t.Errorf("Take, signed in the other alphabet: %v", err)
			}
			break
		}
	}
}

// TestOrderOfFields: neither the order of a document's fields nor what its kinds don't use bears on it.
func TestOrderOfFields(t *testing.T) {
	doc := signed(document(), "y", "ed25519:1", 1)
	chance := rand.New(rand.NewSource(4))
	for range 5 {
		doc.Fields = slices.Clone(doc.Fields)
		chance.Shuffle(len(doc.Fields), func(i, j int) { doc.Fields[i], doc.Fields[j] = doc.Fields[j], doc.Fields[i] })
		b := open(t, config())
		if err := b.take(doc); err != nil {
			t.Errorf("Take in another order: %v", err)
		}
		b.agree()
	}
	b := open(t, config())
	if err := b.take(filled(doc)); err != nil {
		t.Errorf("Take with unused parts: %v", err)
	}
	b.agree()
	odd := filled(text("y"))
	odd.Int, odd.Fields = 25, fields("ed25519:1", keyOf(1), "y", fields("ed25519:1", get(doc, "signatures", "y", "ed25519:1"))).Fields
	for _, name := range []string{"server_name", "valid_from_ts", "valid_until_ts", "verify_keys", "signatures"} {
		for kind := range 5 {
			odd := odd
			odd.Kind, odd.List = kind, nil
			open(t, config()).take(set(doc, name, odd))
		}
	}
}

// filled is v with something in all that its kinds don't use.
func filled(v api.Value) api.Value {
	full := api.Value{Kind: v.Kind, Bool: true, Int: math.MinInt64, Text: "\xff", List: []api.Value{{Kind: 9}}, Fields: []api.Field{{Name: "\xff"}, {Name: "\xff"}}}
	switch v.Kind {
	case api.Bool:
		full.Bool = v.Bool
	case api.Int:
		full.Int = v.Int
	case api.Text:
		full.Text = v.Text
	case api.List:
		full.List = nil
		for _, w := range v.List {
			full.List = append(full.List, filled(w))
		}
	case api.Object:
		full.Fields = nil
		for _, f := range v.Fields {
			full.Fields = append(full.Fields, api.Field{Name: f.Name, Value: filled(f.Value)})
		}
	}
	return full
}

// TestFull: a document whose keys have no room is refused whole; those that are known need none.
func TestFull(t *testing.T) {
	three, known := document(), set(document(), "verify_keys", fields("ed25519:1", keyOf(12)))
	for n, want := range map[int]error{59: nil, 60: nil, 61: api.ErrFull, 62: api.ErrFull} {
		// The own key, y's one, and n others; the document has two that aren't known.
		c := api.Config{Name: "x", Key: "ed25519:1", Seed: seed(0), Peers: append([]api.Peer{peer("y", "ed25519:1", 1, 10, 1000)}, manyPeers(n)...)}
		b := open(t, c)
		if got := len(b.m.known); got != n+2 {
			t.Fatalf("%d keys are known", got)
		}
		if err := b.take(three); err != api.ErrSign {
			t.Errorf("Take beside %d, not signed: %v", n, err)
		}
		if err := b.take(signed(three, "y", "ed25519:1", 1)); err != want {
			t.Errorf("Take beside %d: %v", n, err)
		}
		b.agree()
		for _, key := range []string{"ed25519:new", "ed25519:a"} {
			if err := b.find("y", key, 20); (err == nil) != (want == nil) {
				t.Errorf("Find of %s beside %d: %v", key, n, err)
			}
		}
		if err := b.take(signed(known, "y", "ed25519:1", 1)); err != nil {
			t.Errorf("Take of what is known beside %d: %v", n, err)
		}
		one := set(document(), "verify_keys", fields("ed25519:one", keyOf(15), "ed25519:1", keyOf(1)))
		wantOne := map[int]error{59: nil, 60: api.ErrFull, 61: nil, 62: api.ErrFull}[n]
		if err := b.take(signed(one, "y", "ed25519:1", 1)); err != wantOne {
			t.Errorf("Take of one more beside %d: %v", n, err)
		}
		b.agree()
	}
}

// TestFirstDocumentStays: in whatever order documents are taken, the first that tells a key is the one that is known.
func TestFirstDocumentStays(t *testing.T) {
	chance := rand.New(rand.NewSource(5))
	names := []string{"ed25519:a", "ed25519:b", "ed25519:c", "ed25519:d"}
	for range 12 {
		b := open(t, config())
		said := map[string]api.Peer{"ed25519:1": config().Peers[0], "ed25519:2": config().Peers[1]}
		for range 5 {
			doc := set(set(document(), "valid_from_ts", number(10+chance.Int63n(900))), "valid_until_ts", number(1000+chance.Int63n(1000)))
			all, fresh := fields(), map[string]api.Peer{}
			for _, i := range chance.Perm(4)[:1+chance.Intn(3)] {
				n := byte(50 + chance.Intn(100))
				all = set(all, names[i], keyOf(n))
				fresh[names[i]] = peer("y", names[i], n, get(doc, "valid_from_ts").Int, get(doc, "valid_until_ts").Int)
			}
			if err := b.take(signed(set(doc, "verify_keys", all), "y", "ed25519:1", 1)); err != nil {
				t.Fatalf("Take: %v", err)
			}
			maps.Copy(fresh, said)
			said = fresh
			for name, p := range said {
				for _, at := range []int64{p.From, p.Until - 1} {
					if k, err := b.s.Find("y", name, at); err != nil || !bytes.Equal(k, p.Public) {
						t.Fatalf("Find of %s at %d: %x, %v", name, at, k, err)
					}
				}
				for _, at := range []int64{p.From - 1, p.Until} {
					if _, err := b.s.Find("y", name, at); err != api.ErrKey {
						t.Fatalf("Find of %s at %d: %v", name, at, err)
					}
				}
			}
		}
	}
}
