package names_test

import (
	"math/rand"
	"strings"
	"testing"
	"unicode/utf8"
	"unsafe"

	"covey/api"
	"covey/names"
)

// kinds are the calls of P13.1.
var kinds = []struct {
	name string
	is   func(s string) bool
}{
	{"server", names.Server}, {"user", names.User}, {"room", names.Room}, {"event", names.Event}, {"key", names.Key},
}

// sound are names of each kind.
var sound = map[string][]string{
	"server": {"a", "0", "ed25519", "x.y", "a.example", "a-b", "a--b", "1.2.3.4", "a0-9z.b--c.d", strings.Repeat("a", 64), strings.Repeat("a.", 31) + "bc", "a" + strings.Repeat("-", 62) + "9"},
	"user":   {"@a:x", "@al=1:x", "@.:x", "@._=-/:x-y.z", "@" + strings.Repeat("z", 32) + ":" + strings.Repeat("9", 64), "@//..--==__:0"},
	"room":   {"!R:x", "!Ab_-:x", "!-:a.b", "!_:0", "!" + strings.Repeat("Z", 32) + ":" + strings.Repeat("z", 64), "!aZ09_-:x--y.z"},
	"event":  {"$" + strings.Repeat("a", 43), "$" + strings.Repeat("Z9_-", 10) + "abc", "$-" + strings.Repeat("_", 42)},
	"key":    {"ed25519:1", "ed25519:k_1", "ed25519:_", "ed25519:" + strings.Repeat("Z", 16), "ed25519:aZ09_"},
}

// everySound goes through the names of all kinds, in a fixed order.
func everySound(do func(kind, s string)) {
	for _, k := range kinds {
		for _, s := range sound[k.name] {
			do(k.name, s)
		}
	}
}

// is asks all five calls: the text must be a name of that kind, and of no other; "" is none.
func is(t *testing.T, s, kind string) {
	t.Helper()
	for _, k := range kinds {
		if got := k.is(s); got != (k.name == kind) {
			t.Fatalf("%q is a %s's name: %v", s, k.name, got)
		}
	}
	splits(t, s)
}

// holds asks all five calls, and holds them against the oracle; of two kinds no text is.
func holds(t *testing.T, s string) {
	t.Helper()
	n := 0
	for _, k := range kinds {
		got := k.is(s)
		if got != oracle(k.name, s) {
			t.Fatalf("%q is a %s's name: %v", s, k.name, got)
		}
		if got {
			n++
		}
	}
	if n > 1 {
		t.Fatalf("%q is a name of %d kinds", s, n)
	}
	splits(t, s)
}

// splits asks Split, holds it against the oracle, and asks Join for the name again.
func splits(t *testing.T, s string) {
	t.Helper()
	local, server, err := names.Split(s)
	wantLocal, wantServer, ok := oracleSplit(s)
	if !ok {
		if local != "" || server != "" || err != api.ErrSyntax {
			t.Fatalf("Split(%q): %q, %q, %v; not ErrSyntax alone", s, local, server, err)
		}
		return
	}
	if local != wantLocal || server != wantServer || err != nil {
		t.Fatalf("Split(%q): %q, %q, %v", s, local, server, err)
	}
	if strings.Contains(local, ":") || strings.Contains(server, ":") || !names.Server(server) {
		t.Fatalf("Split(%q): %q, %q", s, local, server)
	}
	if again, err := names.Join(s[:1], local, server); again != s || err != nil {
		t.Fatalf("Join of what Split tells of %q: %q, %v", s, again, err)
	}
}

// joins asks Join, and holds it against the oracle.
func joins(t *testing.T, mark, local, server string) {
	t.Helper()
	s, err := names.Join(mark, local, server)
	want, ok := oracleJoin(mark, local, server)
	if !ok {
		if s != "" || err != api.ErrSyntax {
			t.Fatalf("Join(%q, %q, %q): %q, %v; not ErrSyntax alone", mark, local, server, s, err)
		}
		return
	}
	if s != want || err != nil {
		t.Fatalf("Join(%q, %q, %q): %q, %v", mark, local, server, s, err)
	}
	if l, v, err := names.Split(s); l != local || v != server || err != nil {
		t.Fatalf("Split of Join(%q, %q, %q): %q, %q, %v", mark, local, server, l, v, err)
	}
}

// texts gives all texts of up to so many of some letters.
func texts(letters []string, most int, do func(s string)) {
	all := []string{""}
	for n := 0; ; n++ {
		for _, s := range all {
			do(s)
		}
		if n == most {
			return
		}
		var longer []string
		for _, s := range all {
			for _, l := range letters {
				longer = append(longer, s+l)
			}
		}
		all = longer
	}
}

func TestExamples(t *testing.T) {
	for s, want := range map[string]bool{"a.example": true, "a..b": false, "-a": false, "a.-b": false, "": false} {
		if names.Server(s) != want {
			t.Errorf("Server(%q): %v", s, !want)
		}
	}
	if !names.User("@al=1:x") || names.User("@Al:x") || names.User("@:x") {
		t.Error("User")
	}
	if !names.Room("!Ab_-:x") || !names.Key("ed25519:k_1") || !names.Event("$"+strings.Repeat("a", 43)) {
		t.Error("Room, Key or Event")
	}
	if local, server, err := names.Split("@al:x.y"); local != "al" || server != "x.y" || err != nil {
		t.Errorf("Split: %q, %q, %v", local, server, err)
	}
	if local, server, err := names.Split("$a"); local != "" || server != "" || err != api.ErrSyntax {
		t.Errorf("Split of no name: %q, %q, %v", local, server, err)
	}
	if s, err := names.Join("!", "R", "x"); s != "!R:x" || err != nil {
		t.Errorf("Join: %q, %v", s, err)
	}
	if s, err := names.Join("@", "R", "x"); s != "" || err != api.ErrSyntax {
		t.Errorf("Join of no user: %q, %v", s, err)
	}
}

func TestSound(t *testing.T) {
	everySound(func(kind, s string) { is(t, s, kind) })
}

// TestServersThatAreNone: what is amiss is at an end, or beside a `.`.
func TestServersThatAreNone(t *testing.T) {
	for _, s := range []string{
		"", ".", "-", "..", "--", ".-", "-.",
		".a", "a.", "-a", "a-", "a.-", "a-.", "-a-", ".a.",
		"a..b", "a.-b", "a-.b", "a-.-b", "a...b", "a--.b", "a.--b", "a.b-.c", "a.b.-c", "a.b..c",
		"A", "a.B", "aBc", "a_b", "a:1", "a/b", "a b", " a", "a ", "a\n", "\na", "a\x00", "a=b", "a@b", "é", "a.é",
	} {
		is(t, s, "")
		for _, ahead := range []string{"@al:", "!R:"} {
			is(t, ahead+s, "")
		}
		joins(t, "@", "al", s)
		joins(t, "!", "R", s)
	}
}

func TestNamesThatAreNone(t *testing.T) {
	for _, s := range []string{
		"@", "@:", "@a", "@a:", "@:x", ":x", "a:x", "@@a:x", "@a@:x", "@a:b:x", "@a::x", "@a:x:", "@A:x", "@aB:x", "@a+:x", "@a~:x", "@a b:x", "@a\n:x", "@a:x\n", "\n@a:x", "@é:x", "@a!:x", "@a$:x", "＠a:x",
		"!", "!:", "!R", "!R:", "!:x", "!!R:x", "!R:S:x", "!R.:x", "!R=:x", "!R/:x", "!R+:x", "!é:x", "!@a:x", "@!a:x", "!R:x\n", "!R:X",
		"$", "$a", "$" + strings.Repeat("a", 42), "$" + strings.Repeat("a", 44), strings.Repeat("a", 43) + "$", "$$" + strings.Repeat("a", 42), "$" + strings.Repeat("a", 42) + "+", "$" + strings.Repeat("a", 42) + "/", "$" + strings.Repeat("a", 42) + "=", "$" + strings.Repeat("a", 42) + ":", "$" + strings.Repeat("a", 42) + ".", "$" + strings.Repeat("a", 43) + "\n", "$" + strings.Repeat("a", 41) + "é", "$" + strings.Repeat("a", 42) + "é", "$a:x",
		"ed25519:", "ed25519:" + strings.Repeat("a", 17), "ed25519::1", "ed25519:1:1", "ed25519:-", "ed25519:k-1", "ed25519:k.1", "ed25519:é", "Ed25519:1", "ED25519:1", "ed25518:1", "ed25519 :1", "ed25519: 1", "ed25519:1\n", " ed25519:1", "curve25519:1", ":1", "@ed25519:1:x",
	} {
		is(t, s, "")
	}
}

// TestEachByteAtEachPlace: any byte in place of one, or between two, and names that lack one.
func TestEachByteAtEachPlace(t *testing.T) {
	everySound(func(_, s string) {
		for i := range len(s) + 1 {
			if i < len(s) {
				holds(t, s[:i]+s[i+1:])
			}
			for x := range 256 {
				b := string([]byte{byte(x)})
				holds(t, s[:i]+b+s[i:])
				if i < len(s) {
					holds(t, s[:i]+b+s[i+1:])
				}
			}
		}
	})
}

// TestEachLetter: which bytes may stand within a name of each kind, written out.
func TestEachLetter(t *testing.T) {
	const low, digits, high = "abcdefghijklmnopqrstuvwxyz", "0123456789", "ABCDEFGHIJKLMNOPQRSTUVWXYZ"
	for _, c := range []struct{ kind, ahead, behind, may string }{
		{"server", "a", "a", low + digits + ".-"},
		{"server", "", "", low + digits},
		{"server", "a.", "", low + digits},
		{"server", "", ".a", low + digits},
		{"server", "a-", "-a", low + digits + "-"},
		{"user", "@", ":x", low + digits + "._=-/"},
		{"room", "!", ":x", low + digits + high + "_-"},
		{"event", "$" + strings.Repeat("a", 42), "", low + digits + high + "_-"},
		{"event", "$", strings.Repeat("a", 42), low + digits + high + "_-"},
		{"key", "ed25519:", "", low + digits + high + "_"},
	} {
		for x := range 256 {
			want := ""
			if strings.IndexByte(c.may, byte(x)) >= 0 {
				want = c.kind
			}
			is(t, c.ahead+string([]byte{byte(x)})+c.behind, want)
		}
	}
}

// TestNoOtherRune: a rune of several bytes is in no name, whatever it looks like, and whatever its number's last byte is.
func TestNoOtherRune(t *testing.T) {
	for r := rune(utf8.RuneSelf); r <= utf8.MaxRune; r++ {
		one := string(r)
		event := "$" + strings.Repeat("a", 43-len(one)) + one
		if names.Server(one) || names.Server("a"+one+"a") || names.User("@"+one+":x") || names.User("@a:"+one) || names.Room("!"+one+":x") || names.Room("!R:"+one) || names.Event(event) || names.Event("$"+strings.Repeat("a", 42)+one) || names.Key("ed25519:"+one) {
			t.Fatalf("a name with the rune %x", r)
		}
	}
}

// TestNoRune: bytes that are no UTF-8 are in no name, though they read as fffd.
func TestNoRune(t *testing.T) {
	for _, s := range []string{"\x80", "\xff", "\xc3", "\xc3a", "\xe2\x82", "\xf0\x9f\x98", "\xed\xa0\x80", "\xc1\xa1", "\xe0\x81\xa1", "\xef\xbf\xbd", "\xf4\x90\x80\x80"} {
		for _, name := range []string{s, "a" + s, "a" + s + "a", "@" + s + ":x", "@a:" + s, "!" + s + ":x", "!R:" + s, "ed25519:" + s, "$" + s + strings.Repeat("a", 43-len(s)), "$" + strings.Repeat("a", 43-len(s)) + s, s + "@a:x"} {
			is(t, name, "")
		}
		joins(t, "@", s, "x")
		joins(t, "@", "a", s)
		joins(t, s, "a", "x")
	}
}

// TestEachLength: the bounds of each part, of its own and beside one another.
func TestEachLength(t *testing.T) {
	within := func(n, least, most int, kind string) string {
		if n < least || n > most {
			return ""
		}
		return kind
	}
	for n := range 100 {
		is(t, strings.Repeat("a", n), within(n, 1, api.MaxName, "server"))
		is(t, strings.Repeat("a", n)+".b", within(n+2, 3, api.MaxName, "server"))
		is(t, "@"+strings.Repeat("a", n)+":x", within(n, 1, api.MaxLocal, "user"))
		is(t, "!"+strings.Repeat("A", n)+":x", within(n, 1, api.MaxLocal, "room"))
		is(t, "@a:"+strings.Repeat("a", n), within(n, 1, api.MaxName, "user"))
		is(t, "!A:"+strings.Repeat("a", n), within(n, 1, api.MaxName, "room"))
		is(t, "$"+strings.Repeat("a", n), within(n, 43, 43, "event"))
		is(t, "ed25519:"+strings.Repeat("a", n), within(n, 1, 16, "key"))
		for _, local := range []int{0, 1, 31, 32, 33} {
			holds(t, "@"+strings.Repeat("-", local)+":"+strings.Repeat("9", n))
			holds(t, "!"+strings.Repeat("_", local)+":"+strings.Repeat("9", n))
			joins(t, "@", strings.Repeat("/", local), strings.Repeat("x", n))
			joins(t, "!", strings.Repeat("Z", local), strings.Repeat("x", n))
		}
	}
}

// TestShortServers: all texts of up to eight letters of those that the rule of neighbours tells apart.
func TestShortServers(t *testing.T) {
	texts([]string{"a", "7", ".", "-"}, 8, func(s string) { holds(t, s) })
	texts([]string{"z", ".", "-", "Z", "_", ":", "\n", "\xc3", "é"}, 5, func(s string) { holds(t, s) })
}

// TestShortNames: all texts of up to five of the marks and of letters that one kind or another takes.
func TestShortNames(t *testing.T) {
	texts([]string{"@", "!", "$", ":", "a", "A", "0", ".", "-", "_", "=", "/"}, 5, func(s string) { holds(t, s) })
	for _, mark := range []string{"@", "!", "@a:", "!A:", "ed25519:", "$" + strings.Repeat("a", 40)} {
		texts([]string{"@", "!", ":", "a", "A", ".", "-", "_", "="}, 4, func(s string) { holds(t, mark+s) })
	}
}

// TestJoins: the mark is of one byte, wherever the borders of the parts are laid.
func TestJoins(t *testing.T) {
	marks := []string{"", "@", "!", "$", ":", "a", "@@", "!!", "@!", "@a", "!A", "@a:", "ed25519", "ed25519:", " @", "@\n", "\x00", "\xff", "＠", "A", "\xc0"}
	locals := []string{"", "a", "A", "R", "al=1", "Ab_-", "._=-/", "@a", "!A", "$", ":", "a:", ":a", "a:x", "é", "\xff", "a b", "a\n", strings.Repeat("a", 32), strings.Repeat("a", 33), strings.Repeat("é", 16)}
	servers := []string{"", "x", "x.y", "a.example", "a..b", "-a", "a-", "a.-b", "x:y", ":x", "x:", "X", "x_y", "x/", "é", "\xff", "x\n", strings.Repeat("x", 64), strings.Repeat("x", 65)}
	for _, mark := range marks {
		for _, local := range locals {
			for _, server := range servers {
				joins(t, mark, local, server)
			}
		}
	}
	for _, c := range [][3]string{{"", "@a", "x"}, {"@a", "l", "x"}, {"", "!R", "x"}, {"!R", "", "x"}, {"@a:x", "", ""}, {"@", "a:x", ""}, {"@", "", "a:x"}, {"$", "a", "x"}} {
		if s, err := names.Join(c[0], c[1], c[2]); s != "" || err != api.ErrSyntax {
			t.Errorf("Join(%q, %q, %q): %q, %v", c[0], c[1], c[2], s, err)
		}
	}
}

// TestJoinsShort: all short locals and servers, with both marks.
func TestJoinsShort(t *testing.T) {
	var few []string
	texts([]string{"a", "A", ".", "-", "_", ":", "@"}, 3, func(s string) { few = append(few, s) })
	for _, local := range few {
		for _, server := range few {
			joins(t, "@", local, server)
			joins(t, "!", local, server)
		}
	}
}

// TestByChance: names made by chance, and marred by it.
func TestByChance(t *testing.T) {
	chance := rand.New(rand.NewSource(13))
	some := func(letters string, most int) string {
		b := make([]byte, chance.Intn(most+1))
		for i := range b {
			b[i] = letters[chance.Intn(len(letters))]
		}
		return string(b)
	}
	const alnum = "abcxyz0189ABCXYZ"
	for range 100000 {
		server, local := some("abyz09.-", 68), some("az09._=-/", 34)
		if chance.Intn(2) == 0 {
			server = strings.Trim(strings.NewReplacer("..", "a", ".-", "b", "-.", "c").Replace(server), ".-")
		}
		for _, s := range []string{server, "@" + local + ":" + server, "!" + some(alnum+"_-", 34) + ":" + server, "$" + some(alnum+"_-", 1) + some(alnum, 1) + strings.Repeat("x", 41), "ed25519:" + some(alnum+"_", 18)} {
			holds(t, s)
			marred := []byte(s)
			if len(marred) > 0 {
				marred[chance.Intn(len(marred))] = "@!$:.-_=/aA0 \n\x00\xc3"[chance.Intn(16)]
			}
			holds(t, string(marred))
		}
		joins(t, "@", local, server)
		joins(t, "!", local, server)
	}
}

// TestLong: texts far beyond the bounds.
func TestLong(t *testing.T) {
	for _, long := range []string{strings.Repeat("a", 1<<20), strings.Repeat("a.", 1<<20) + "a", strings.Repeat(":", 1<<20), strings.Repeat("é", 1<<20)} {
		for _, ahead := range []string{"", "@", "!", "$", "@a:", "!A:", "ed25519:"} {
			is(t, ahead+long, "")
			is(t, ahead+long+":x", "")
		}
		for _, c := range [][3]string{{"@", long, "x"}, {"!", "R", long}, {long, "a", "x"}, {long, long, long}} {
			if s, err := names.Join(c[0], c[1], c[2]); s != "" || err != api.ErrSyntax {
				t.Errorf("Join of long parts: %d bytes, %v", len(s), err)
			}
		}
	}
}

// TestMemory: what is answered doesn't change with what was handed in.
func TestMemory(t *testing.T) {
	for _, name := range []string{"@a:x", "!R:x.y", "@" + strings.Repeat("b", 32) + ":" + strings.Repeat("c", 64)} {
		memory := []byte(name)
		text := unsafe.String(&memory[0], len(memory))
		colon := strings.Index(text, ":")
		mark, ownLocal, ownServer := text[:1], text[1:colon], text[colon+1:]
		local, server, err := names.Split(text)
		joined, joinErr := names.Join(mark, ownLocal, ownServer)
		if string(memory) != name {
			t.Fatalf("%q was changed", name)
		}
		for i := range memory {
			memory[i] = '#'
		}
		if local != name[1:colon] || server != name[colon+1:] || err != nil {
			t.Errorf("the parts of %q change with it: %q, %q, %v", name, local, server, err)
		}
		if joined != name || joinErr != nil {
			t.Errorf("the name %q changes with its parts: %q, %v", name, joined, joinErr)
		}
	}
}
