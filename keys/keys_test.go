package keys_test

import (
	"bytes"
	"crypto/ed25519"
	"fmt"
	"math"
	"slices"
	"strings"
	"testing"

	"covey/api"
	"covey/keys"
)

const maxInt = 1<<53 - 1

func number(n int64) api.Value      { return api.Value{Kind: api.Int, Int: n} }
func text(s string) api.Value       { return api.Value{Kind: api.Text, Text: s} }
func list(l ...api.Value) api.Value { return api.Value{Kind: api.List, List: l} }

// fields is an object of names and values, by turns.
func fields(l ...any) api.Value {
	v := api.Value{Kind: api.Object}
	for i := 0; i < len(l); i += 2 {
		v.Fields = append(v.Fields, api.Field{Name: l[i].(string), Value: l[i+1].(api.Value)})
	}
	return v
}

// set is an object with a field of that value.
func set(v api.Value, name string, w api.Value) api.Value {
	v = unset(v, name)
	v.Fields = append(v.Fields, api.Field{Name: name, Value: w})
	return v
}

// unset is an object without a field.
func unset(v api.Value, name string) api.Value {
	v.Fields = slices.DeleteFunc(slices.Clone(v.Fields), func(f api.Field) bool { return f.Name == name })
	return v
}

// get is a field's value, by a path of names.
func get(v api.Value, path ...string) api.Value {
	for _, name := range path {
		v = first(v, name)
	}
	return v
}

// alike tells whether two values are the same, whatever their empty lists are.
func alike(a, b api.Value) bool { return fmt.Sprintf("%#v", bare(a)) == fmt.Sprintf("%#v", bare(b)) }

// bare is a value in which empty lists are nil.
func bare(v api.Value) api.Value {
	l, f := v.List, v.Fields
	v.List, v.Fields = nil, nil
	for _, w := range l {
		v.List = append(v.List, bare(w))
	}
	for _, w := range f {
		v.Fields = append(v.Fields, api.Field{Name: w.Name, Value: bare(w.Value)})
	}
	return v
}

func brief(v any) string {
	s := fmt.Sprintf("%+v", v)
	return s[:min(len(s), 400)]
}

// seed is one of some seeds.
func seed(n byte) [32]byte { return [32]byte{n, 3: 200 - n, 31: n * 7} }

// both is a store and the model of it, which are asked the same.
type both struct {
	t *testing.T
	s *keys.Store
	m *model
}

func open(t *testing.T, c api.Config) both { return both{t, keys.New(c), newModel(c)} }

func (b both) find(server, key string, at int64) error {
	b.t.Helper()
	k, err := b.s.Find(server, key, at)
	want, wantErr := b.m.find(server, key, at)
	if !bytes.Equal(k, want) || err != wantErr || err != nil && k != nil && len(k) > 0 {
		b.t.Fatalf("Find(%q, %q, %d): %x, %v; not %x, %v", server, key, at, k, err, want, wantErr)
	}
	return err
}

// agree asks for all that the model knows, at the edges of the windows, and for a few that it doesn't know.
func (b both) agree() {
	b.t.Helper()
	for _, p := range b.m.known {
		for _, at := range []int64{p.From - 1, p.From, p.Until - 1, p.Until, 0, maxInt} {
			b.find(p.Name, p.Key, at)
		}
		for _, key := range []string{p.Key + "x", "ed25519:1", "ed25519:2", "ed25519:new", ""} {
			b.find(p.Name, key, p.From)
		}
	}
}

func (b both) check(doc api.Value) error {
	b.t.Helper()
	err := b.s.Check(doc)
	if _, want := b.m.fresh(doc); err != want {
		b.t.Fatalf("Check(%s): %v; not %v", brief(doc), err, want)
	}
	return err
}

func (b both) take(doc api.Value) error {
	b.t.Helper()
	b.check(doc)
	err := b.s.Take(doc)
	if want := b.m.take(doc); err != want {
		b.t.Fatalf("Take(%s): %v; not %v", brief(doc), err, want)
	}
	return err
}

func (b both) doc(now int64) api.Value {
	b.t.Helper()
	doc := b.s.Doc(now)
	if want := b.m.doc(now); !alike(doc, want) {
		b.t.Fatalf("Doc(%d): %s; not %s", now, brief(doc), brief(want))
	}
	return doc
}

func (b both) event(e api.Event) error {
	b.t.Helper()
	err := b.s.CheckEvent(e)
	if want := b.m.checkEvent(e); err != want {
		b.t.Fatalf("CheckEvent(%s): %v; not %v", brief(e), err, want)
	}
	return err
}

func (b both) sign(m api.Message, dest string) (string, error) {
	b.t.Helper()
	s, err := b.s.SignRequest(m, dest)
	if want, wantErr := b.m.signRequest(m, dest); s != want || err != wantErr {
		b.t.Fatalf("SignRequest(%s, %q): %q, %v; not %q, %v", brief(m), dest, s, err, want, wantErr)
	}
	return s, err
}

func (b both) request(m api.Message, now int64) error {
	b.t.Helper()
	s, err := b.s.CheckRequest(m, now)
	if want, wantErr := b.m.checkRequest(m, now); s != want || err != wantErr {
		b.t.Fatalf("CheckRequest(%s, %d): %q, %v; not %q, %v", brief(m), now, s, err, want, wantErr)
	}
	return err
}

func peer(server, key string, n byte, from, until int64) api.Peer {
	return api.Peer{Name: server, Key: key, Public: public(seed(n)), From: from, Until: until}
}

// config is that of a server x that knows two keys of y and one of z.
func config() api.Config {
	return api.Config{Name: "x", Key: "ed25519:1", Seed: seed(0), Peers: []api.Peer{
		peer("y", "ed25519:1", 1, 10, 1000), peer("y", "ed25519:2", 2, 500, 2000), peer("z", "ed25519:1", 3, 0, maxInt),
	}}
}

func TestExamples(t *testing.T) {
	x := keys.New(api.Config{Name: "x", Key: "ed25519:1", Seed: seed(0), Peers: []api.Peer{peer("y", "ed25519:1", 1, 0, 9)}})
	y := keys.New(api.Config{Name: "y", Key: "ed25519:1", Seed: seed(1)})
	if k, err := x.Find("x", "ed25519:1", 5); !bytes.Equal(k, public(seed(0))) || err != nil {
		t.Errorf("Find of the own key: %x, %v", k, err)
	}
	for _, p := range [][2]string{{"x", "ed25519:2"}, {"y", "ed25519:2"}, {"w", "ed25519:1"}} {
		if k, err := x.Find(p[0], p[1], 5); len(k) > 0 || err != api.ErrKey {
			t.Errorf("Find(%v): %x, %v", p, k, err)
		}
	}
	if err := x.Take(y.Doc(1)); err != nil {
		t.Errorf("Take: %v", err)
	}
	if err := x.Take(x.Doc(1)); err != api.ErrState {
		t.Errorf("Take of its own: %v", err)
	}
	if o, err := x.CheckRequest(api.Message{Method: "GET", Target: "/"}, 5); o != "" || err != api.ErrSign {
		t.Errorf("CheckRequest without the header: %q, %v", o, err)
	}
}

func TestOwnKey(t *testing.T) {
	b := open(t, config())
	for at, want := range map[int64]error{math.MinInt64: api.ErrKey, -1: api.ErrKey, 0: nil, 1: nil, maxInt - 1: nil, maxInt: api.ErrKey, math.MaxInt64: api.ErrKey} {
		if err := b.find("x", "ed25519:1", at); err != want {
			t.Errorf("Find of the own key at %d: %v", at, err)
		}
	}
	for _, name := range []string{"a.example", strings.Repeat("z", 64)} {
		for _, key := range []string{"ed25519:Z_9", "ed25519:" + strings.Repeat("a", 16)} {
			b := open(t, api.Config{Name: name, Key: key, Seed: seed(9)})
			if err := b.find(name, key, 0); err != nil {
				t.Errorf("Find(%q, %q): %v", name, key, err)
			}
			b.agree()
			b.doc(7)
		}
	}
}

func TestFind(t *testing.T) {
	b := open(t, config())
	b.agree()
	for at, want := range map[int64]error{math.MinInt64: api.ErrKey, -1: api.ErrKey, 0: api.ErrKey, 9: api.ErrKey, 10: nil, 11: nil, 999: nil, 1000: api.ErrKey, 1001: api.ErrKey, math.MaxInt64: api.ErrKey} {
		if err := b.find("y", "ed25519:1", at); err != want {
			t.Errorf("Find at %d: %v", at, err)
		}
	}
	for _, server := range []string{"", "Y", "y ", "yy", "w", "yed25519:1", "\xff", "@a:y"} {
		if err := b.find(server, "ed25519:1", 20); err != api.ErrKey {
			t.Errorf("Find of %q: %v", server, err)
		}
	}
	for _, key := range []string{"", "1", "ed25519:", "ed25519:3", "ED25519:1", "ed25519:1 ", "\xff"} {
		if err := b.find("y", key, 20); err != api.ErrKey {
			t.Errorf("Find of %q: %v", key, err)
		}
	}
}

// TestPeers: which peers are taken.
func TestPeers(t *testing.T) {
	good := []api.Peer{
		peer("y", "ed25519:1", 1, 0, 1), peer("y", "ed25519:1", 1, 0, math.MaxInt64), peer("y", "ed25519:1", 1, math.MaxInt64-1, math.MaxInt64), peer("y", "ed25519:1", 1, maxInt, maxInt+1),
		peer(strings.Repeat("z", 64), "ed25519:1", 1, 5, 6), peer("a-b.c", "ed25519:"+strings.Repeat("Z", 16), 1, 5, 6),
		{Name: "y", Key: "ed25519:1", Public: make([]byte, 32), Until: 1}, {Name: "y", Key: "ed25519:1", Public: bytes.Repeat([]byte{255}, 32), Until: 1},
	}
	for _, p := range good {
		b := open(t, api.Config{Name: "x", Key: "ed25519:1", Peers: []api.Peer{p}})
		if err := b.find(p.Name, p.Key, p.From); err != nil {
			t.Errorf("Find of %s: %v", brief(p), err)
		}
		b.agree()
	}
	p := peer("y", "ed25519:1", 1, 5, 9)
	bad := []api.Peer{{}, peer("y", "ed25519:1", 1, -1, 9), peer("y", "ed25519:1", 1, math.MinInt64, math.MaxInt64), peer("y", "ed25519:1", 1, 5, 5), peer("y", "ed25519:1", 1, 5, 4), peer("y", "ed25519:1", 1, 0, 0), peer("y", "ed25519:1", 1, 0, math.MinInt64), peer("y", "ed25519:1", 1, math.MaxInt64, math.MinInt64), peer("y", "ed25519:1", 1, math.MaxInt64, math.MaxInt64)}
	for _, name := range []string{"", "Y", "-y", "y.", "a..b", strings.Repeat("z", 65), "@a:y", "\xff", "y\n", "x"} {
		bad = append(bad, peer(name, "ed25519:2", 1, 0, 9))
	}
	for _, key := range []string{"", "1", "ed25519:", "ed25519:a-b", "ed25519:" + strings.Repeat("Z", 17), "rsa:1", "ed25519:\xff"} {
		bad = append(bad, peer("y", key, 1, 0, 9))
	}
	for _, k := range [][]byte{nil, {}, p.Public[:31], append(slices.Clone(p.Public), 0), make([]byte, 64)} {
		bad = append(bad, api.Peer{Name: "y", Key: "ed25519:1", Public: k, From: 5, Until: 9})
	}
	for _, q := range bad {
		b := open(t, api.Config{Name: "x", Key: "ed25519:1", Peers: []api.Peer{q}})
		for _, at := range []int64{q.From, 0, 5, math.MinInt64, q.Until - 1} {
			if err := b.find(q.Name, q.Key, at); err != api.ErrKey {
				t.Errorf("Find of %s at %d: %v", brief(q), at, err)
			}
		}
		b = open(t, api.Config{Name: "x", Key: "ed25519:1", Peers: []api.Peer{q, p, q}})
		b.agree()
		if err := b.find("y", "ed25519:1", 5); err != nil {
			t.Errorf("Find beside %s: %v", brief(q), err)
		}
	}
}

// TestFirstPeerStays: of a pair that is told twice the first that may be is known; of the own name none is.
func TestFirstPeerStays(t *testing.T) {
	b := open(t, api.Config{Name: "x", Key: "ed25519:1", Seed: seed(0), Peers: []api.Peer{
		peer("y", "ed25519:1", 1, 9, 5), peer("y", "ed25519:1", 2, 5, 9), peer("y", "ed25519:1", 3, 0, 20), peer("x", "ed25519:1", 4, 0, 20), peer("x", "ed25519:2", 5, 0, 20),
		peer("z", "ed25519:1", 6, 0, 20), peer("y", "ed25519:2", 7, 0, 20),
	}})
	b.agree()
	if k, err := b.s.Find("y", "ed25519:1", 5); !bytes.Equal(k, public(seed(2))) || err != nil {
		t.Errorf("Find of a pair that was told twice: %x, %v", k, err)
	}
	if err := b.find("y", "ed25519:1", 10); err != api.ErrKey {
		t.Errorf("Find in the second's window: %v", err)
	}
	if k, err := b.s.Find("x", "ed25519:1", 5); !bytes.Equal(k, public(seed(0))) || err != nil {
		t.Errorf("Find of the own key: %x, %v", k, err)
	}
	if err := b.find("x", "ed25519:2", 5); err != api.ErrKey {
		t.Errorf("Find of another own key: %v", err)
	}
}

// manyPeers are so many keys of servers s0, s1 and so on, four each.
func manyPeers(n int) []api.Peer {
	var all []api.Peer
	for i := range n {
		all = append(all, peer(fmt.Sprintf("s%d", i/4), fmt.Sprintf("ed25519:%d", i%4), byte(i), int64(i), int64(2*i+100)))
	}
	return all
}

// TestMostPeers: the own key and 63 others, those that may not be and those that are told twice not counted.
func TestMostPeers(t *testing.T) {
	for _, n := range []int{0, 1, 62, 63, 64, 65, 100} {
		all := manyPeers(n)
		b := open(t, api.Config{Name: "x", Key: "ed25519:1", Peers: all})
		known := 0
		for i, p := range all {
			if err := b.find(p.Name, p.Key, p.From); (err == nil) != (i < 63) {
				t.Errorf("Find of the peer %d of %d: %v", i, n, err)
			} else if err == nil {
				known++
			}
		}
		if known != min(n, 63) {
			t.Errorf("of %d peers %d are known", n, known)
		}
		b.agree()
		var mixed []api.Peer
		for _, p := range all {
			mixed = append(mixed, p, p, peer("x", "ed25519:9", 1, 0, 9), peer("X", "ed25519:1", 1, 0, 9), peer("w", "ed25519:1", 1, 9, 9))
		}
		c := open(t, api.Config{Name: "x", Key: "ed25519:1", Peers: mixed})
		c.agree()
		for _, p := range all {
			if b.find(p.Name, p.Key, p.From) != c.find(p.Name, p.Key, p.From) {
				t.Errorf("of %d peers among others %s is known otherwise", n, brief(p))
			}
		}
	}
}

func TestDoc(t *testing.T) {
	b := open(t, config())
	want := map[int64][2]int64{
		math.MinInt64: {0, 86400000}, -1: {0, 86400000}, 0: {0, 86400000}, 1: {1, 86400001}, 1763500000000: {1763500000000, 1763586400000},
		maxInt - 86400001: {maxInt - 86400001, maxInt - 1}, maxInt - 86400000: {maxInt - 86400000, maxInt}, maxInt - 86399999: {maxInt - 86399999, maxInt},
		maxInt - 2: {maxInt - 2, maxInt}, maxInt - 1: {maxInt - 1, maxInt}, maxInt: {maxInt - 1, maxInt}, maxInt + 1: {maxInt - 1, maxInt}, math.MaxInt64: {maxInt - 1, maxInt},
	}
	for now, w := range want {
		doc := b.doc(now)
		signed := fields("server_name", text("x"), "valid_from_ts", number(w[0]), "valid_until_ts", number(w[1]), "verify_keys", fields("ed25519:1", fields("key", text(letters(public(seed(0)))))))
		sig, _ := fromLetters(get(doc, "signatures", "x", "ed25519:1").Text)
		if !ed25519.Verify(public(seed(0)), []byte(written(tree(signed, 0))), sig) {
			t.Errorf("Doc(%d): another signature", now)
		}
		names := []string{}
		for _, f := range doc.Fields {
			names = append(names, f.Name)
		}
		if !slices.Equal(names, []string{"server_name", "signatures", "valid_from_ts", "valid_until_ts", "verify_keys"}) {
			t.Errorf("Doc(%d): fields %q", now, names)
		}
		if rest := unset(doc, "signatures"); !alike(rest, signed) {
			t.Errorf("Doc(%d): %s; not %s", now, brief(rest), brief(signed))
		}
		if all := get(doc, "signatures"); len(all.Fields) != 1 || len(all.Fields[0].Value.Fields) != 1 {
			t.Errorf("Doc(%d): signatures %s", now, brief(all))
		}
	}
}

// TestDocIsTaken: what a server tells of its key another one takes that knows it then.
func TestDocIsTaken(t *testing.T) {
	y := keys.New(api.Config{Name: "y", Key: "ed25519:1", Seed: seed(1)})
	for now, want := range map[int64]error{-5: api.ErrSign, 0: api.ErrSign, 9: api.ErrSign, 10: nil, 999: nil, 1000: api.ErrSign, maxInt: api.ErrSign} {
		b := open(t, config())
		if err := b.take(y.Doc(now)); err != want {
			t.Errorf("Take of Doc(%d): %v", now, err)
		}
		b.agree()
	}
	z := keys.New(api.Config{Name: "z", Key: "ed25519:1", Seed: seed(3)})
	for _, now := range []int64{math.MinInt64, 0, 1, maxInt - 2, maxInt - 1, maxInt, math.MaxInt64} {
		if err := open(t, config()).take(z.Doc(now)); err != nil {
			t.Errorf("Take of z's Doc(%d): %v", now, err)
		}
	}
	other := keys.New(api.Config{Name: "y", Key: "ed25519:1", Seed: seed(7)})
	if err := open(t, config()).take(other.Doc(20)); err != api.ErrSign {
		t.Errorf("Take of a document by another seed: %v", err)
	}
	if err := open(t, config()).take(keys.New(api.Config{Name: "w", Key: "ed25519:1", Seed: seed(1)}).Doc(20)); err != api.ErrSign {
		t.Errorf("Take of a document of a server that isn't known: %v", err)
	}
}

// TestOddConfigs: a name that is none is not provided for, but nothing breaks by it.
func TestOddConfigs(t *testing.T) {
	for _, name := range []string{"", "X", "\xff", strings.Repeat("z", 70000)} {
		for _, key := range []string{"", "k", "\xff"} {
			s := keys.New(api.Config{Name: name, Key: key, Seed: seed(1), Peers: config().Peers})
			s.Doc(5)
			s.Find(name, key, 5)
			s.Take(s.Doc(5))
			s.CheckEvent(api.Event{Sender: "@a:" + name})
			s.SignRequest(api.Message{Method: "GET", Target: "/"}, "y")
			s.CheckRequest(api.Message{Method: "GET", Target: "/", Headers: []api.Header{{Name: "Authorization", Value: header("y", "ed25519:1", "")}}}, 20)
		}
	}
}
