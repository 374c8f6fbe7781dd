package keys

import (
	"slices"

	"covey/api"
	"covey/base"
	"covey/canon"
	"covey/names"
	"covey/sign"
)

// The fields of a document.
const (
	fieldServer     = "server_name"
	fieldFrom       = "valid_from_ts"
	fieldUntil      = "valid_until_ts"
	fieldKeys       = "verify_keys"
	fieldSignatures = "signatures"

	fieldKey      = "key"      // of each of its keys
	fieldUnsigned = "unsigned" // beside them: not signed
)

// mostOfDocument is how many keys a document has at most.
const mostOfDocument = 8

// day is how long the server's own document is valid, in the unit of the stamps.
const day = 86400000

// namedKey is a key's name and its bytes.
type namedKey struct {
	name   string
	public [32]byte
}

// document is what a document of keys says.
type document struct {
	server      string
	from, until int64
	keys        []namedKey
}

// accepted is what a document says that may be taken, with those of its keys alone that aren't known yet.
func (s *Store) accepted(doc api.Value) (document, error) {
	form, err := canon.Norm(doc)
	if err != nil {
		return document{}, err
	}
	d, formed := readDocument(form)
	switch {
	case !formed:
		return document{}, api.ErrForm
	case d.server == s.own.server:
		return document{}, api.ErrState
	case !s.signed(form, d):
		return document{}, api.ErrSign
	}
	d.keys = slices.DeleteFunc(d.keys, func(k namedKey) bool {
		_, known := s.windows[pair{d.server, k.name}]
		return known
	})
	if len(s.windows)+len(d.keys) > mostKeys {
		return document{}, api.ErrFull
	}
	return d, nil
}

// signed tells whether a document bears a signature of its server, by a key that is known, and valid when the document begins to be.
func (s *Store) signed(form api.Value, d document) bool {
	told := []byte(signedOfDocument(form))
	for _, f := range fieldsOf(field(field(form, fieldSignatures), d.server)) {
		public, err := s.valid(pair{d.server, f.Name}, d.from)
		sig, formed := decoded(f.Value)
		if err == nil && formed && sign.Verify(public[:], told, sig) {
			return true
		}
	}
	return false
}

// readDocument is what a value in its one form says; false: it is no document.
func readDocument(form api.Value) (document, bool) {
	server, from, until := field(form, fieldServer), field(form, fieldFrom), field(form, fieldUntil)
	keys, formed := readKeys(field(form, fieldKeys))
	if !formed || !areSignatures(field(form, fieldSignatures)) {
		return document{}, false
	}
	if server.Kind != api.Text || !names.Server(server.Text) {
		return document{}, false
	}
	if from.Kind != api.Int || until.Kind != api.Int || from.Int < 0 || until.Int <= from.Int {
		return document{}, false
	}
	return document{server.Text, from.Int, until.Int, keys}, true
}

// readKeys are the keys of a document; false: they are amiss.
func readKeys(v api.Value) ([]namedKey, bool) {
	fields := fieldsOf(v)
	if len(fields) < 1 || len(fields) > mostOfDocument {
		return nil, false
	}
	var keys []namedKey
	for _, f := range fields {
		public, formed := decoded(field(f.Value, fieldKey))
		if !formed || len(public) != 32 || !names.Key(f.Name) {
			return nil, false
		}
		keys = append(keys, namedKey{f.Name, [32]byte(public)})
	}
	return keys, true
}

// areSignatures tells whether a value has the form of signatures: by servers, then by keys.
func areSignatures(v api.Value) bool {
	isOfKey := func(f api.Field) bool { return names.Key(f.Name) && f.Value.Kind == api.Text }
	isOfServer := func(f api.Field) bool { return names.Server(f.Name) && isObjectOf(f.Value, isOfKey) }
	return isObjectOf(v, isOfServer)
}

// signers are the names of the keys by which a value is signed for a server, by rising name, each once.
func signers(v api.Value, server string) []string {
	var all []string
	for _, f := range fieldsOf(field(field(v, fieldSignatures), server)) {
		all = append(all, f.Name)
	}
	slices.Sort(all)
	return slices.Compact(all)
}

// signedOfDocument is what is signed of a document that can be told.
func signedOfDocument(doc api.Value) string {
	rest, _ := canon.Without(doc, fieldSignatures, fieldUnsigned)
	told, _ := canon.Write(rest)
	return told
}

// signedDocument is the one form of a document of one key and its window, signed by that.
func signedDocument(own pair, w window, seed [32]byte) api.Value {
	key := object(api.Field{Name: fieldKey, Value: text(base.Encode(w.public[:], false))})
	doc := object(
		api.Field{Name: fieldServer, Value: text(own.server)},
		api.Field{Name: fieldFrom, Value: number(w.from)},
		api.Field{Name: fieldUntil, Value: number(w.until)},
		api.Field{Name: fieldKeys, Value: object(api.Field{Name: own.key, Value: key})},
	)
	sig := sign.Sign(seed, []byte(signedOfDocument(doc)))
	byKey := object(api.Field{Name: own.key, Value: text(base.Encode(sig[:], false))})
	byServer := object(api.Field{Name: own.server, Value: byKey})
	doc.Fields = append(doc.Fields, api.Field{Name: fieldSignatures, Value: byServer})
	form, _ := canon.Norm(doc)
	return form
}
