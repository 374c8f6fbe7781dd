package keys_test

import (
	"crypto/ed25519"
	"fmt"
	"math/rand"
	"slices"
	"strings"
	"testing"
	"unsafe"

	"covey/api"
	"covey/keys"
)

func signBytes(n byte, b []byte) []byte { return ed25519.Sign(private(seed(n)), b) }

// pick is one of some.
func pick[T any](chance *rand.Rand, l ...T) T { return l[chance.Intn(len(l))] }

// someKey is one of few keys' names, someServer one of few servers'.
func someKey(chance *rand.Rand) string { return fmt.Sprintf("ed25519:%d", chance.Intn(5)) }
func someServer(chance *rand.Rand) string {
	return pick(chance, "x", "y", "y", "y", "z", "z", "w")
}

// seedOf is the seed by which a server's key most often is made.
func seedOf(chance *rand.Rand, server, key string) byte {
	if chance.Intn(8) == 0 {
		return byte(chance.Intn(200))
	}
	return server[0] + key[len(key)-1]
}

// someConfig is one of x, that knows some keys of few servers.
func someConfig(chance *rand.Rand) api.Config {
	c := api.Config{Name: "x", Key: "ed25519:1", Seed: seed('x' + '1')}
	for range chance.Intn(6) {
		server, key := someServer(chance), someKey(chance)
		from := chance.Int63n(60)
		c.Peers = append(c.Peers, peer(server, key, seedOf(chance, server, key), from-2, from+chance.Int63n(80)))
	}
	if chance.Intn(4) == 0 {
		c.Peers = append(c.Peers, manyPeers(50+chance.Intn(15))...)
	}
	return c
}

// someDocument is one by chance, mostly of the right form, and signed by some keys.
func someDocument(chance *rand.Rand) api.Value {
	server := someServer(chance)
	from := chance.Int63n(80)
	all := fields()
	for range 1 + chance.Intn(3) {
		key := someKey(chance)
		all = set(all, key, keyOf(seedOf(chance, server, key)))
	}
	doc := fields("server_name", text(server), "valid_from_ts", number(from), "valid_until_ts", number(from+chance.Int63n(90)), "verify_keys", all, "signatures", fields())
	if chance.Intn(6) == 0 {
		wrong := badOf()
		name := pick(chance, "server_name", "valid_from_ts", "valid_until_ts", "verify_keys")
		doc = set(doc, name, pick(chance, wrong[name]...))
	}
	for range chance.Intn(4) {
		key := someKey(chance)
		doc = signed(doc, pick(chance, server, server, server, "y"), key, seedOf(chance, server, key))
	}
	if chance.Intn(8) == 0 {
		doc = set(doc, pick(chance, "unsigned", "else"), number(1))
	}
	return doc
}

// TestChance does things by chance with stores, and holds them against the model.
func TestChance(t *testing.T) {
	chance := rand.New(rand.NewSource(6))
	told := map[string]int{}
	count := func(what string, err error) { told[fmt.Sprint(what, " ", err)]++ }
	for range 60 {
		b := open(t, someConfig(chance))
		for range 15 {
			server, key := someServer(chance), someKey(chance)
			n := seedOf(chance, server, key)
			at := chance.Int63n(120) - 5
			switch chance.Intn(4) {
			case 0, 1:
				count("take", b.take(someDocument(chance)))
			case 2:
				v := sealed(t, message(), server, key, n)
				if chance.Intn(2) == 0 {
					key := someKey(chance)
					v = sealed(t, v, server, key, seedOf(chance, server, key))
				}
				if chance.Intn(6) == 0 {
					v = set(v, pick(chance, "content", "unsigned", "type"), fields())
				}
				count("event", b.event(of(v, "@a:"+pick(chance, server, server, server, "y"), at)))
			default:
				s := keys.New(api.Config{Name: server, Key: key, Seed: seed(n)})
				m := put(pick(chance, "", "{}", "[1,2]"))
				value, err := s.SignRequest(m, pick(chance, "x", "x", "x", "x", "y"))
				if err != nil {
					t.Fatal(err)
				}
				if chance.Intn(8) == 0 {
					m.Body = []byte(pick(chance, "", "{}", "{", "[1, 2]"))
				}
				count("request", b.request(authorized(m, value), at))
			}
		}
		b.agree()
	}
	for what, codes := range map[string][]error{
		"take":    {nil, api.ErrForm, api.ErrState, api.ErrSign, api.ErrFull},
		"event":   {nil, api.ErrKey, api.ErrSign, api.ErrHash},
		"request": {nil, api.ErrPeer, api.ErrKey, api.ErrForm, api.ErrSign},
	} {
		for _, code := range codes {
			if told[fmt.Sprint(what, " ", code)] == 0 {
				t.Errorf("of %s there was no %v: %v", what, code, told)
			}
		}
	}
}

// TestTwoServers: what one signs the other takes, as long as the key is valid.
func TestTwoServers(t *testing.T) {
	chance := rand.New(rand.NewSource(7))
	for range 15 {
		n, from := byte(chance.Intn(200)), chance.Int63n(100)
		until := from + 1 + chance.Int63n(100)
		a := keys.New(api.Config{Name: "a.example", Key: "ed25519:k_1", Seed: seed(n)})
		b := keys.New(api.Config{Name: "b", Key: "ed25519:1", Seed: seed(n + 1), Peers: []api.Peer{peer("a.example", "ed25519:k_1", n, from, until)}})
		m := put(pick(chance, goodBodies()...))
		value, err := a.SignRequest(m, "b")
		if err != nil {
			t.Fatal(err)
		}
		v := sealed(t, message(), "a.example", "ed25519:k_1", n)
		for _, at := range []int64{from - 1, from, until - 1, until} {
			valid := from <= at && at < until
			origin, err := b.CheckRequest(authorized(m, value), at)
			if valid && (origin != "a.example" || err != nil) || !valid && (origin != "" || err != api.ErrKey) {
				t.Errorf("CheckRequest at %d of %d to %d: %q, %v", at, from, until, origin, err)
			}
			if err := b.CheckEvent(of(v, "@al:a.example", at)); valid != (err == nil) || !valid && err != api.ErrKey {
				t.Errorf("CheckEvent at %d of %d to %d: %v", at, from, until, err)
			}
			if err := b.Check(a.Doc(at)); valid != (err == nil) && at >= 0 || !valid && at >= 0 && err != api.ErrSign {
				t.Errorf("Check of Doc(%d), from %d to %d: %v", at, from, until, err)
			}
		}
	}
}

// copied is a value in memory of its own.
func copied(v api.Value) api.Value {
	w := v
	w.List, w.Fields = slices.Clone(v.List), slices.Clone(v.Fields)
	for i := range w.List {
		w.List[i] = copied(w.List[i])
	}
	for i := range w.Fields {
		w.Fields[i].Value = copied(w.Fields[i].Value)
	}
	return w
}

// spoil changes all that a value holds in memory: its lists and fields.
func spoil(v api.Value) {
	for _, w := range v.List {
		spoil(w)
	}
	for _, f := range v.Fields {
		spoil(f.Value)
	}
	for i := range v.List[:cap(v.List)] {
		v.List[:cap(v.List)][i] = text("spoilt")
	}
	for i := range v.Fields[:cap(v.Fields)] {
		v.Fields[:cap(v.Fields)][i] = api.Field{Name: "spoilt", Value: number(13)}
	}
}

func TestMemory(t *testing.T) {
	c := config()
	b := open(t, c)
	// The model has a copy of its own: so all that is asked from here on tells whether the store has, too.
	for i := range c.Peers {
		for j := range c.Peers[i].Public {
			c.Peers[i].Public[j] ^= 85
		}
		c.Peers[i].Name, c.Peers[i].Until = "w", 1
	}
	b.agree()
	for range 2 {
		k, err := b.s.Find("y", "ed25519:1", 20)
		if err != nil || cap(k) < 32 {
			t.Fatal(err)
		}
		clear(k[:cap(k)])
		spoil(b.s.Doc(5))
	}
	b.agree()
	b.doc(5)
	doc := signed(document(), "y", "ed25519:1", 1)
	before := copied(doc)
	b.take(doc)
	if !alike(doc, before) {
		t.Error("Take changed a document")
	}
	spoil(doc)
	b.agree()
	m := authorized(put("{}"), "")
	e := of(sealed(t, message(), "y", "ed25519:2", 2), "@al:y", 600)
	wantE, wantM := brief(e), brief(m)
	b.event(e)
	b.request(m, 5)
	m.Headers = m.Headers[:0:1]
	b.sign(m, "y")
	m.Headers = m.Headers[:1]
	if brief(e) != wantE || brief(m) != wantM {
		t.Error("an argument was changed")
	}
}

// TestTextsAreNew: no text that is kept or answered lies in the memory of one that was handed in.
func TestTextsAreNew(t *testing.T) {
	held := [][]byte{}
	hold := func(s string) string {
		b := append([]byte(nil), s...)
		if len(b) == 0 {
			return ""
		}
		held = append(held, b)
		return unsafe.String(&b[0], len(b))
	}
	var made func(v api.Value) api.Value
	made = func(v api.Value) api.Value {
		v = copied(v)
		v.Text = hold(v.Text)
		for i := range v.List {
			v.List[i] = made(v.List[i])
		}
		for i := range v.Fields {
			v.Fields[i] = api.Field{Name: hold(v.Fields[i].Name), Value: made(v.Fields[i].Value)}
		}
		return v
	}
	c := config()
	c.Name, c.Key = hold(c.Name), hold(c.Key)
	for i := range c.Peers {
		c.Peers[i].Name, c.Peers[i].Key = hold(c.Peers[i].Name), hold(c.Peers[i].Key)
	}
	s := keys.New(c)
	if err := s.Take(made(signed(document(), "y", "ed25519:1", 1))); err != nil {
		t.Fatal(err)
	}
	y := keys.New(api.Config{Name: "y", Key: "ed25519:1", Seed: seed(1)})
	value, err := y.SignRequest(get1(), "x")
	if err != nil {
		t.Fatal(err)
	}
	m := api.Message{Method: hold("GET"), Target: hold("/a?b=c")}
	out, _ := s.SignRequest(m, hold("y"))
	origin, err := s.CheckRequest(with(m, hold("Authorization"), hold(value)), 20)
	if err != nil {
		t.Fatal(err)
	}
	doc := s.Doc(5)
	want := strings.Clone(out + origin + brief(doc))
	for _, b := range held {
		for i := range b {
			b[i] = '?'
		}
	}
	if got := out + origin + brief(doc); got != want {
		t.Errorf("an answer's texts changed: %s", got)
	}
	b := both{t, s, newModel(config())}
	if err := b.m.take(signed(document(), "y", "ed25519:1", 1)); err != nil {
		t.Fatal(err)
	}
	b.agree()
	b.doc(5)
	b.sign(get1(), "y")
	b.request(authorized(get1(), value), 20)
}

// TestSameAgain: two stores of which the same was asked answer the same, however often.
func TestSameAgain(t *testing.T) {
	a, b := keys.New(config()), keys.New(config())
	doc := signed(document(), "y", "ed25519:1", 1)
	for range 3 {
		if a.Take(doc) != b.Take(doc) || !alike(a.Doc(7), b.Doc(7)) {
			t.Error("two stores answer otherwise")
		}
		s, errS := a.SignRequest(get1(), "y")
		r, errR := b.SignRequest(get1(), "y")
		if s != r || errS != errR {
			t.Error("two stores sign otherwise")
		}
	}
	other := keys.New(api.Config{Name: "q", Key: "ed25519:1", Seed: seed(0)})
	if _, err := other.Find("y", "ed25519:1", 20); err != api.ErrKey {
		t.Errorf("a store knows what another one does: %v", err)
	}
}
