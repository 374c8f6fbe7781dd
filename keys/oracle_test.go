package keys_test

import (
	"crypto/ed25519"
	"encoding/base64"
	"errors"
	"maps"
	"regexp"
	"slices"
	"strconv"
	"strings"
	"unicode/utf8"

	"covey/api"
	"covey/event"
	"covey/json"
)

// The oracle holds objects as maps and what is known as a list, and takes signatures and letters from Go's library. Of the layers below it asks those alone that the promises are told by: json.Parse and event.Check.

type object map[string]any

// noTree stands for what can't be told.
type noTree struct{}

// tree is a value as Go's own: nil, bool, int64, string, []any, object; or noTree.
func tree(v api.Value, outside int) any {
	if v.Kind == api.List || v.Kind == api.Object {
		if outside > 31 {
			return noTree{}
		}
	}
	switch v.Kind {
	case 0:
		return nil
	case 1:
		return v.Bool
	case 2:
		if v.Int >= 1<<53 || v.Int <= -1<<53 {
			return noTree{}
		}
		return v.Int
	case 3:
		if !utf8.ValidString(v.Text) {
			return noTree{}
		}
		return v.Text
	case 4:
		all := []any{}
		for _, w := range v.List {
			all = append(all, tree(w, outside+1))
		}
		if slices.ContainsFunc(all, isNoTree) {
			return noTree{}
		}
		return all
	case 5:
		all := object{}
		for _, f := range v.Fields {
			if _, twice := all[f.Name]; twice || !utf8.ValidString(f.Name) {
				return noTree{}
			}
			all[f.Name] = tree(f.Value, outside+1)
		}
		for _, w := range all {
			if isNoTree(w) {
				return noTree{}
			}
		}
		return all
	}
	return noTree{}
}

func isNoTree(x any) bool { _, is := x.(noTree); return is }

// values is how many values one holds; beyond 70000 it isn't counted on.
func values(v api.Value) int {
	n := 1
	switch v.Kind {
	case api.List:
		for i := 0; i < len(v.List) && n < 70000; i++ {
			n += values(v.List[i])
		}
	case api.Object:
		for i := 0; i < len(v.Fields) && n < 70000; i++ {
			n += values(v.Fields[i].Value)
		}
	}
	return n
}

// written is the one text of a tree.
func written(x any) string {
	switch y := x.(type) {
	case nil:
		return "null"
	case bool:
		return strconv.FormatBool(y)
	case int64:
		return strconv.FormatInt(y, 10)
	case string:
		return quoted(y)
	case []any:
		var l []string
		for _, e := range y {
			l = append(l, written(e))
		}
		return "[" + strings.Join(l, ",") + "]"
	}
	var l []string
	y := x.(object)
	for _, name := range slices.Sorted(maps.Keys(y)) {
		l = append(l, quoted(name)+":"+written(y[name]))
	}
	return "{" + strings.Join(l, ",") + "}"
}

func quoted(s string) string {
	pairs := []string{`"`, `\"`, `\`, `\\`, "\b", `\b`, "\t", `\t`, "\n", `\n`, "\f", `\f`, "\r", `\r`}
	for i := range 32 {
		if !strings.ContainsRune("\b\t\n\f\r", rune(i)) {
			pairs = append(pairs, string(rune(i)), `\u00`+string("01"[i/16])+string("0123456789abcdef"[i%16]))
		}
	}
	return `"` + strings.NewReplacer(pairs...).Replace(s) + `"`
}

// value is a tree as a value in its one form.
func value(x any) api.Value {
	switch y := x.(type) {
	case nil:
		return api.Value{}
	case bool:
		return api.Value{Kind: api.Bool, Bool: y}
	case int64:
		return api.Value{Kind: api.Int, Int: y}
	case string:
		return api.Value{Kind: api.Text, Text: y}
	case []any:
		v := api.Value{Kind: api.List}
		for _, e := range y {
			v.List = append(v.List, value(e))
		}
		return v
	}
	v := api.Value{Kind: api.Object}
	y := x.(object)
	for _, name := range slices.Sorted(maps.Keys(y)) {
		v.Fields = append(v.Fields, api.Field{Name: name, Value: value(y[name])})
	}
	return v
}

// oracleTree is the tree of a value, or the error that canon.Write answers.
func oracleTree(v api.Value) (any, error) {
	if values(v) > 65536 {
		return nil, api.ErrLong
	}
	x := tree(v, 0)
	if isNoTree(x) {
		return nil, api.ErrForm
	}
	if len(written(x)) > 65536 {
		return nil, api.ErrLong
	}
	return x, nil
}

func letters(b []byte) string { return base64.RawStdEncoding.EncodeToString(b) }

// fromLetters are the bytes of a text, if it has any.
func fromLetters(s string) ([]byte, bool) {
	// Go's own decoder passes over line breaks.
	if strings.ContainsAny(s, "\r\n") {
		return nil, false
	}
	b, err := base64.RawStdEncoding.Strict().DecodeString(s)
	return b, err == nil
}

func private(seed [32]byte) ed25519.PrivateKey { return ed25519.NewKeyFromSeed(seed[:]) }

func public(seed [32]byte) []byte { return private(seed).Public().(ed25519.PublicKey) }

const (
	label      = `[a-z0-9]([a-z0-9-]*[a-z0-9])?`
	serverText = label + `([.]` + label + `)*`
	keyText    = `ed25519:[A-Za-z0-9_]{1,16}`
)

var (
	serverName = regexp.MustCompile(`\A` + serverText + `\z`)
	keyName    = regexp.MustCompile(`\A` + keyText + `\z`)
	senderName = regexp.MustCompile(`\A(?:@[a-z0-9._=/-]{1,32}|![A-Za-z0-9_-]{1,32}):(.*)\z`)
	headerText = regexp.MustCompile(`\AX-Covey origin="(` + serverText + `)",key="(` + keyText + `)",sig="([A-Za-z0-9+/]*)"\z`)
)

func isServer(s string) bool { return len(s) <= 64 && serverName.MatchString(s) }
func isKey(s string) bool    { return keyName.MatchString(s) }

// model is a store as a list of what it knows.
type model struct {
	name, key string
	seed      [32]byte
	known     []api.Peer
}

func newModel(c api.Config) *model {
	m := &model{name: c.Name, key: c.Key, seed: c.Seed}
	m.known = []api.Peer{{Name: c.Name, Key: c.Key, Public: public(c.Seed), From: 0, Until: 9007199254740991}}
	for _, p := range c.Peers {
		may := isServer(p.Name) && isKey(p.Key) && len(p.Public) == 32 && p.From >= 0 && p.From < p.Until
		if _, known := m.get(p.Name, p.Key); may && p.Name != c.Name && !known && len(m.known) < 64 {
			p.Public = slices.Clone(p.Public)
			m.known = append(m.known, p)
		}
	}
	return m
}

func (m *model) get(server, key string) (api.Peer, bool) {
	for _, p := range m.known {
		if p.Name == server && p.Key == key {
			return p, true
		}
	}
	return api.Peer{}, false
}

func (m *model) find(server, key string, at int64) ([]byte, error) {
	p, known := m.get(server, key)
	if !known || at < p.From || at >= p.Until {
		return nil, api.ErrKey
	}
	return p.Public, nil
}

// modelDoc is what a document says, as the keys that it makes known.
func modelDoc(x any) ([]api.Peer, bool) {
	o, is := x.(object)
	if !is {
		return nil, false
	}
	server, a := o["server_name"].(string)
	from, b := o["valid_from_ts"].(int64)
	until, c := o["valid_until_ts"].(int64)
	all, d := o["verify_keys"].(object)
	signatures, e := o["signatures"].(object)
	if !a || !b || !c || !d || !e || !isServer(server) || from < 0 || until <= from || len(all) == 0 || len(all) > 8 {
		return nil, false
	}
	for server, y := range signatures {
		its, is := y.(object)
		if !is || !isServer(server) {
			return nil, false
		}
		for key, z := range its {
			if _, is := z.(string); !is || !isKey(key) {
				return nil, false
			}
		}
	}
	var told []api.Peer
	for key, y := range all {
		its, _ := y.(object)
		s, is := its["key"].(string)
		b, may := fromLetters(s)
		if !is || !may || len(b) != 32 || !isKey(key) {
			return nil, false
		}
		told = append(told, api.Peer{Name: server, Key: key, Public: b, From: from, Until: until})
	}
	return told, true
}

// docSigned is what is signed of a document.
func docSigned(o object) []byte {
	r := maps.Clone(o)
	delete(r, "signatures")
	delete(r, "unsigned")
	return []byte(written(r))
}

// fresh are the keys that a document would make known, or the error.
func (m *model) fresh(v api.Value) ([]api.Peer, error) {
	x, err := oracleTree(v)
	if err != nil {
		return nil, err
	}
	told, is := modelDoc(x)
	if !is {
		return nil, api.ErrForm
	}
	server, from := told[0].Name, told[0].From
	if server == m.name {
		return nil, api.ErrState
	}
	signatures, _ := x.(object)["signatures"].(object)[server].(object)
	signed := false
	for _, p := range m.known {
		s, there := signatures[p.Key].(string)
		sig, may := fromLetters(s)
		if p.Name == server && p.From <= from && from < p.Until && there && may {
			signed = signed || ed25519.Verify(p.Public, docSigned(x.(object)), sig)
		}
	}
	if !signed {
		return nil, api.ErrSign
	}
	told = slices.DeleteFunc(told, func(p api.Peer) bool { _, known := m.get(p.Name, p.Key); return known })
	if len(m.known)+len(told) > 64 {
		return nil, api.ErrFull
	}
	return told, nil
}

func (m *model) take(v api.Value) error {
	fresh, err := m.fresh(v)
	m.known = append(m.known, fresh...)
	return err
}

func (m *model) doc(now int64) api.Value {
	switch {
	case now < 0:
		now = 0
	case now > 9007199254740990:
		now = 9007199254740990
	}
	until := now + 24*60*60*1000
	if until > 9007199254740991 {
		until = 9007199254740991
	}
	o := object{
		"server_name": m.name, "valid_from_ts": now, "valid_until_ts": until,
		"verify_keys": object{m.key: object{"key": letters(public(m.seed))}},
	}
	o["signatures"] = object{m.name: object{m.key: letters(ed25519.Sign(private(m.seed), []byte(written(o))))}}
	return value(o)
}

// first is the value of an object's first field of a name.
func first(v api.Value, name string) api.Value {
	if v.Kind == api.Object {
		for _, f := range v.Fields {
			if f.Name == name {
				return f.Value
			}
		}
	}
	return api.Value{}
}

func (m *model) checkEvent(e api.Event) error {
	parts := senderName.FindStringSubmatch(e.Sender)
	if parts == nil || !isServer(parts[1]) {
		return api.ErrKey
	}
	its := first(first(e.Raw, "signatures"), parts[1])
	looked := []string{}
	for i := 0; its.Kind == api.Object && i < len(its.Fields); i++ {
		if _, err := m.find(parts[1], its.Fields[i].Name, e.Stamp); err == nil {
			looked = append(looked, its.Fields[i].Name)
		}
	}
	slices.Sort(looked)
	var last error = api.ErrKey
	for _, key := range looked {
		b, _ := m.find(parts[1], key, e.Stamp)
		if last = event.Check(e.Raw, parts[1], key, b); last == nil {
			return nil
		}
	}
	return last
}

// requestSigned is what is signed of a request: its text, or what is amiss in its body, or of it all.
func requestSigned(m api.Message, origin, destination string) (told []byte, ofBody, ofAll error) {
	v := fields("method", text(m.Method), "uri", text(m.Target), "origin", text(origin), "destination", text(destination))
	if len(m.Body) > 0 {
		content, err := json.Parse(string(m.Body))
		if err != nil {
			fault := &api.Fault{Err: err}
			errors.As(err, &fault)
			return nil, fault.Err, nil
		}
		v.Fields = append(v.Fields, api.Field{Name: "content", Value: content})
	}
	x, err := oracleTree(v)
	if err != nil {
		return nil, nil, err
	}
	return []byte(written(x)), nil, nil
}

// authorizations are the values of all headers of that name.
func authorizations(m api.Message) []string {
	var all []string
	for _, h := range m.Headers {
		if regexp.MustCompile(`\A[Aa][Uu][Tt][Hh][Oo][Rr][Ii][Zz][Aa][Tt][Ii][Oo][Nn]\z`).MatchString(h.Name) {
			all = append(all, h.Value)
		}
	}
	return all
}

func (m *model) signRequest(r api.Message, dest string) (string, error) {
	if !isServer(dest) || r.Method == "" || r.Target == "" || !utf8.ValidString(r.Method+" "+r.Target) || len(authorizations(r)) > 0 {
		return "", api.ErrArg
	}
	text, ofBody, ofAll := requestSigned(r, m.name, dest)
	if ofBody != nil {
		return "", ofBody
	}
	if ofAll != nil {
		return "", ofAll
	}
	return header(m.name, m.key, letters(ed25519.Sign(private(m.seed), text))), nil
}

// header is an Authorization's value.
func header(origin, key, sig string) string {
	return `X-Covey origin="` + origin + `",key="` + key + `",sig="` + sig + `"`
}

func (m *model) checkRequest(r api.Message, now int64) (string, error) {
	all := authorizations(r)
	if len(all) != 1 {
		return "", api.ErrSign
	}
	// The server's own part has two groups within it, which aren't asked for.
	parts := headerText.FindStringSubmatch(all[0])
	if parts == nil || !isServer(parts[1]) {
		return "", api.ErrSign
	}
	origin, key := parts[1], parts[len(parts)-2]
	sig, may := fromLetters(parts[len(parts)-1])
	if !may {
		return "", api.ErrSign
	}
	if !slices.ContainsFunc(m.known, func(p api.Peer) bool { return p.Name == origin }) {
		return "", api.ErrPeer
	}
	b, err := m.find(origin, key, now)
	if err != nil {
		return "", api.ErrKey
	}
	text, ofBody, ofAll := requestSigned(r, origin, m.name)
	if ofBody != nil || ofAll != nil {
		return "", api.ErrForm
	}
	if !ed25519.Verify(b, text, sig) {
		return "", api.ErrSign
	}
	return origin, nil
}
