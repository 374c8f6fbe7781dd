package names_test

import (
	"regexp"
	"strings"
)

// The oracle reads names by patterns written from the chapter's table; it shares nothing with the program.

// A server is labels with a `.` between each two; a label ends in letters or digits, so that no `-` is beside a `.` or at an end.
const (
	label  = `[abcdefghijklmnopqrstuvwxyz0123456789](?:[abcdefghijklmnopqrstuvwxyz0123456789-]*[abcdefghijklmnopqrstuvwxyz0123456789])?`
	server = label + `(?:[.]` + label + `)*`
)

// patterns by the kinds' names; the server of a user and of a room is measured beside them.
var patterns = map[string]*regexp.Regexp{
	"server": regexp.MustCompile(`\A(` + server + `)\z`),
	"user":   regexp.MustCompile(`\A@[abcdefghijklmnopqrstuvwxyz0123456789._=/-]{1,32}:(` + server + `)\z`),
	"room":   regexp.MustCompile(`\A![[:alnum:]_-]{1,32}:(` + server + `)\z`),
	"event":  regexp.MustCompile(`\A[$][[:alnum:]_-]{43}()\z`),
	"key":    regexp.MustCompile(`\Aed25519:[[:alnum:]_]{1,16}()\z`),
}

// oracle tells whether a text is a name of that kind.
func oracle(kind, s string) bool {
	found := patterns[kind].FindStringSubmatch(s)
	return found != nil && len(found[1]) <= 64
}

// oracleSplit answers a name's two parts, and whether the text is such a name.
func oracleSplit(s string) (string, string, bool) {
	if !oracle("user", s) && !oracle("room", s) {
		return "", "", false
	}
	two := strings.Split(s, ":")
	return two[0][1:], two[1], true
}

// oracleJoin answers the name of its parts, and whether they make one.
func oracleJoin(mark, local, server string) (string, bool) {
	s := strings.Join([]string{mark + local, server}, ":")
	if mark == "@" && oracle("user", s) || mark == "!" && oracle("room", s) {
		return s, true
	}
	return "", false
}
