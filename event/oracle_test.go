package event_test

import (
	"crypto/ed25519"
	"crypto/sha256"
	"encoding/base64"
	"maps"
	"regexp"
	"slices"
	"strconv"
	"strings"
	"unicode/utf8"

	"covey/api"
)

// The oracle holds objects as maps, and takes hashes, signatures and letters from Go's library; it shares nothing with the program.

type object map[string]any

// noTree stands for what can't be told.
type noTree struct{}

// tree is a value as Go's own: nil, bool, int64, string, []any, object; or noTree.
func tree(v api.Value, outside int) any {
	if v.Kind == api.List || v.Kind == api.Object {
		if outside > 31 {
			return noTree{}
		}
	}
	switch v.Kind {
	case 0:
		return nil
	case 1:
		return v.Bool
	case 2:
		if v.Int >= 1<<53 || v.Int <= -1<<53 {
			return noTree{}
		}
		return v.Int
	case 3:
		if !utf8.ValidString(v.Text) {
			return noTree{}
		}
		return v.Text
	case 4:
		all := []any{}
		for _, w := range v.List {
			all = append(all, tree(w, outside+1))
		}
		if slices.ContainsFunc(all, isNoTree) {
			return noTree{}
		}
		return all
	case 5:
		all := object{}
		for _, f := range v.Fields {
			if _, twice := all[f.Name]; twice || !utf8.ValidString(f.Name) {
				return noTree{}
			}
			all[f.Name] = tree(f.Value, outside+1)
		}
		for _, w := range all {
			if isNoTree(w) {
				return noTree{}
			}
		}
		return all
	}
	return noTree{}
}

func isNoTree(x any) bool { _, is := x.(noTree); return is }

// values is how many values one holds; beyond 70000 it isn't counted on.
func values(v api.Value) int {
	n := 1
	switch v.Kind {
	case api.List:
		for i := 0; i < len(v.List) && n < 70000; i++ {
			n += values(v.List[i])
		}
	case api.Object:
		for i := 0; i < len(v.Fields) && n < 70000; i++ {
			n += values(v.Fields[i].Value)
		}
	}
	return n
}

// written is the one text of a tree.
func written(x any) string {
	switch y := x.(type) {
	case nil:
		return "null"
	case bool:
		return strconv.FormatBool(y)
	case int64:
		return strconv.FormatInt(y, 10)
	case string:
		return quoted(y)
	case []any:
		var l []string
		for _, e := range y {
			l = append(l, written(e))
		}
		return "[" + strings.Join(l, ",") + "]"
	}
	var l []string
	y := x.(object)
	for _, name := range slices.Sorted(maps.Keys(y)) {
		l = append(l, quoted(name)+":"+written(y[name]))
	}
	return "{" + strings.Join(l, ",") + "}"
}

func quoted(s string) string {
	pairs := []string{`"`, `\"`, `\`, `\\`, "\b", `\b`, "\t", `\t`, "\n", `\n`, "\f", `\f`, "\r", `\r`}
	for i := range 32 {
		if !strings.ContainsRune("\b\t\n\f\r", rune(i)) {
			pairs = append(pairs, string(rune(i)), `\u00`+string("01"[i/16])+string("0123456789abcdef"[i%16]))
		}
	}
	return `"` + strings.NewReplacer(pairs...).Replace(s) + `"`
}

// value is a tree as a value in its one form.
func value(x any) api.Value {
	switch y := x.(type) {
	case nil:
		return api.Value{}
	case bool:
		return api.Value{Kind: api.Bool, Bool: y}
	case int64:
		return api.Value{Kind: api.Int, Int: y}
	case string:
		return api.Value{Kind: api.Text, Text: y}
	case []any:
		v := api.Value{Kind: api.List}
		for _, e := range y {
			v.List = append(v.List, value(e))
		}
		return v
	}
	v := api.Value{Kind: api.Object}
	y := x.(object)
	for _, name := range slices.Sorted(maps.Keys(y)) {
		v.Fields = append(v.Fields, api.Field{Name: name, Value: value(y[name])})
	}
	return v
}

// oracleTree is the tree of a value, or the error that canon.Write answers.
func oracleTree(v api.Value) (any, error) {
	if values(v) > 65536 {
		return nil, api.ErrLong
	}
	x := tree(v, 0)
	if isNoTree(x) {
		return nil, api.ErrForm
	}
	if len(written(x)) > 65536 {
		return nil, api.ErrLong
	}
	return x, nil
}

// oracleForm is the object of a value, or the error that Redact answers.
func oracleForm(v api.Value) (object, error) {
	x, err := oracleTree(v)
	if err != nil {
		return nil, err
	}
	o, is := x.(object)
	if !is {
		return nil, api.ErrForm
	}
	return o, nil
}

const kept = " type room_id sender state_key prev_events auth_events depth origin_server_ts content hashes signatures "

// keptContents by type; of m.room.create all stays.
var keptContents = map[string]string{
	"m.room.member":       " membership ",
	"m.room.join_rules":   " join_rule ",
	"m.room.power_levels": " ban events events_default invite kick redact state_default users users_default ",
}

// among tells whether a name is one of a row's.
func among(row, name string) bool {
	return name != "" && !strings.Contains(name, " ") && strings.Contains(row, " "+name+" ")
}

// oracleRedact is an object redacted.
func oracleRedact(o object) object {
	r := maps.Clone(o)
	maps.DeleteFunc(r, func(name string, _ any) bool { return !among(kept, name) })
	content, there := r["content"]
	if !there {
		return r
	}
	c, is := content.(object)
	if !is {
		r["content"] = object{}
		return r
	}
	kind, _ := r["type"].(string)
	if kind != "m.room.create" {
		c = maps.Clone(c)
		maps.DeleteFunc(c, func(name string, _ any) bool { return !among(keptContents[kind], name) })
	}
	r["content"] = c
	return r
}

func less(o object, names ...string) object {
	r := maps.Clone(o)
	for _, name := range names {
		delete(r, name)
	}
	return r
}

func oracleHash(o object) string {
	sum := sha256.Sum256([]byte(written(less(o, "signatures", "hashes", "unsigned"))))
	return base64.RawStdEncoding.EncodeToString(sum[:])
}

func oracleSigned(o object) []byte { return []byte(written(less(oracleRedact(o), "signatures"))) }

func oracleID(o object) string {
	sum := sha256.Sum256(oracleSigned(o))
	return "$" + base64.RawURLEncoding.EncodeToString(sum[:])
}

const (
	label      = `[a-z0-9]([a-z0-9-]*[a-z0-9])?`
	serverText = label + `([.]` + label + `)*`
)

var (
	serverName = regexp.MustCompile(`\A` + serverText + `\z`)
	userName   = regexp.MustCompile(`\A@[a-z0-9._=/-]{1,32}:(` + serverText + `)\z`)
	roomName   = regexp.MustCompile(`\A![A-Za-z0-9_-]{1,32}:(` + serverText + `)\z`)
	eventName  = regexp.MustCompile(`\A[$][A-Za-z0-9_-]{43}\z`)
	keyName    = regexp.MustCompile(`\Aed25519:[A-Za-z0-9_]{1,16}\z`)
)

func isServer(s string) bool { return len(s) <= 64 && serverName.MatchString(s) }

// ofServer tells whether a name is of that pattern, and its server's part is not too long.
func ofServer(pattern *regexp.Regexp, s string) bool {
	return pattern.MatchString(s) && len(s)-strings.IndexByte(s, ':')-1 <= 64
}

// oracleEvents are the names of a list of events, and whether it is one.
func oracleEvents(x any, most int) ([]string, bool) {
	l, is := x.([]any)
	if !is || len(l) > most {
		return nil, false
	}
	seen := map[string]bool{}
	var all []string
	for _, e := range l {
		s, is := e.(string)
		if !is || !eventName.MatchString(s) || seen[s] {
			return nil, false
		}
		seen[s] = true
		all = append(all, s)
	}
	return all, true
}

func oracleSignatures(x any) bool {
	o, is := x.(object)
	for server, y := range o {
		p, isObject := y.(object)
		is = is && isObject && isServer(server)
		for key, z := range p {
			_, isText := z.(string)
			is = is && isText && keyName.MatchString(key)
		}
	}
	return is
}

// oracleParse is what Parse answers.
func oracleParse(v api.Value) (api.Event, error) {
	x, err := oracleTree(v)
	if err != nil {
		return api.Event{}, err
	}
	if len(written(x)) > 49152 {
		return api.Event{}, api.ErrLong
	}
	o, isObject := x.(object)
	if !isObject {
		return api.Event{}, api.ErrForm
	}
	var e api.Event
	var is [12]bool
	e.Type, is[0] = o["type"].(string)
	e.Room, is[1] = o["room_id"].(string)
	e.Sender, is[2] = o["sender"].(string)
	_, e.HasKey = o["state_key"]
	e.Key, is[3] = o["state_key"].(string)
	is[3] = is[3] || !e.HasKey
	e.Prev, is[4] = oracleEvents(o["prev_events"], 20)
	e.Auth, is[5] = oracleEvents(o["auth_events"], 10)
	e.Depth, is[6] = o["depth"].(int64)
	e.Stamp, is[7] = o["origin_server_ts"].(int64)
	_, is[8] = o["content"].(object)
	hashes, _ := o["hashes"].(object)
	_, is[9] = hashes["sha256"].(string)
	is[10] = oracleSignatures(o["signatures"])
	is[11] = e.Type != "" && len(e.Type) <= 255 && len(e.Key) <= 255 && ofServer(roomName, e.Room) && ofServer(userName, e.Sender) && e.Depth >= 0 && e.Stamp >= 0
	if slices.Contains(is[:], false) {
		return api.Event{}, api.ErrForm
	}
	e.ID, e.Content, e.Raw = oracleID(o), value(o["content"]), value(o)
	return e, nil
}

// oracleSeal is what Seal answers.
func oracleSeal(v api.Value, server, key string, seed [32]byte) (api.Value, error) {
	if !isServer(server) || !keyName.MatchString(key) {
		return api.Value{}, api.ErrArg
	}
	o, err := oracleForm(v)
	if err != nil {
		return api.Value{}, err
	}
	o["hashes"] = object{"sha256": oracleHash(o)}
	sig := ed25519.Sign(ed25519.NewKeyFromSeed(seed[:]), oracleSigned(o))
	if _, is := o["signatures"].(object); !is {
		o["signatures"] = object{}
	}
	all := o["signatures"].(object)
	if _, is := all[server].(object); !is {
		all[server] = object{}
	}
	all[server].(object)[key] = base64.RawStdEncoding.EncodeToString(sig)
	if len(written(o)) > 65536 {
		return api.Value{}, api.ErrLong
	}
	return value(o), nil
}

// oracleCheck is what Check answers.
func oracleCheck(v api.Value, server, key string, public []byte) error {
	o, err := oracleForm(v)
	if err != nil {
		return err
	}
	hashes, _ := o["hashes"].(object)
	if sum, is := hashes["sha256"].(string); !is || sum != oracleHash(o) {
		return api.ErrHash
	}
	all, _ := o["signatures"].(object)
	its, _ := all[server].(object)
	told, is := its[key].(string)
	// Go's own decoder passes over line breaks.
	if !is || strings.ContainsAny(told, "\r\n") {
		return api.ErrSign
	}
	sig, err := base64.RawStdEncoding.Strict().DecodeString(told)
	if err != nil || len(public) != 32 || !ed25519.Verify(public, oracleSigned(o), sig) {
		return api.ErrSign
	}
	return nil
}
