package keys

import (
	"strings"
	"unicode/utf8"

	"covey/api"
	"covey/base"
	"covey/canon"
	"covey/http"
	"covey/json"
	"covey/names"
)

// The header by which a request is signed, and what stands around its parts.
const (
	authorizationName = "Authorization"
	aheadOfOrigin     = `X-Covey origin="`
	aheadOfKey        = `",key="`
	aheadOfSignature  = `",sig="`
	atEnd             = `"`
)

// authorization is what a request's header says: by whose key it is signed, and the signature.
type authorization struct {
	by  pair
	sig []byte
}

func (a authorization) told() string {
	return aheadOfOrigin + a.by.server + aheadOfKey + a.by.key + aheadOfSignature + base.Encode(a.sig, false) + atEnd
}

// readAuthorization is what a header's value says; false: it isn't of that form.
func readAuthorization(value string) (authorization, bool) {
	rest, begins := strings.CutPrefix(value, aheadOfOrigin)
	rest, ends := strings.CutSuffix(rest, atEnd)
	// No name has a quote in it, so that each part ends at the first one.
	server, rest, hasKey := strings.Cut(rest, aheadOfKey)
	key, letters, hasSignature := strings.Cut(rest, aheadOfSignature)
	if !begins || !ends || !hasKey || !hasSignature || !names.Server(server) || !names.Key(key) {
		return authorization{}, false
	}
	sig, err := base.Decode(letters, false)
	return authorization{pair{server, key}, sig}, err == nil
}

// onlyAuthorization is the value of that header, if there is just one.
func onlyAuthorization(m api.Message) (string, bool) {
	var all []string
	for i := range m.Headers {
		// One by one, since http.Header tells of the first alone.
		if value, is := http.Header(api.Message{Headers: m.Headers[i : i+1]}, authorizationName); is {
			all = append(all, value)
		}
	}
	if len(all) != 1 {
		return "", false
	}
	return all[0], true
}

// signedOfRequest is what is signed of a request between two servers.
func signedOfRequest(m api.Message, origin, destination string) (string, error) {
	all := object(
		api.Field{Name: "method", Value: text(m.Method)},
		api.Field{Name: "uri", Value: text(m.Target)},
		api.Field{Name: "origin", Value: text(origin)},
		api.Field{Name: "destination", Value: text(destination)},
	)
	if len(m.Body) > 0 {
		content, err := json.Parse(string(m.Body))
		if err != nil {
			return "", codeOf(err)
		}
		all.Fields = append(all.Fields, api.Field{Name: "content", Value: content})
	}
	return canon.Write(all)
}

// isSoundWord tells whether a text is there, and sound.
func isSoundWord(s string) bool {
	return s != "" && utf8.ValidString(s)
}
