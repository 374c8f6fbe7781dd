package json_test

import (
	"reflect"
	"slices"
	"strconv"
	"strings"
	"testing"
	"unsafe"

	"covey/api"
	"covey/json"
	"covey/utf"
)

func boolean(b bool) api.Value        { return api.Value{Kind: api.Bool, Bool: b} }
func number(n int64) api.Value        { return api.Value{Kind: api.Int, Int: n} }
func text(s string) api.Value         { return api.Value{Kind: api.Text, Text: s} }
func list(l ...api.Value) api.Value   { return api.Value{Kind: api.List, List: l} }
func object(f ...api.Field) api.Value { return api.Value{Kind: api.Object, Fields: f} }
func field(name string, v api.Value) api.Field {
	return api.Field{Name: name, Value: v}
}

// same holds two values against each other, an empty list being the same as none.
func same(a, b api.Value) bool {
	return a.Kind == b.Kind && a.Bool == b.Bool && a.Int == b.Int && a.Text == b.Text &&
		slices.EqualFunc(a.List, b.List, same) &&
		slices.EqualFunc(a.Fields, b.Fields, func(x, y api.Field) bool { return x.Name == y.Name && same(x.Value, y.Value) })
}

// answers holds that s has this value.
func answers(t *testing.T, s string, want api.Value) {
	t.Helper()
	if v, err := json.Parse(s); err != nil || !same(v, want) {
		t.Errorf("Parse(%.200q): %v, %v, want %v", s, v, err, want)
	}
}

// fails holds that s has this fault, told by the fault itself, beside the zero Value.
func fails(t *testing.T, s string, at int, code api.Code) {
	t.Helper()
	v, err := json.Parse(s)
	f, ok := err.(*api.Fault)
	if !ok || f == nil || f.At != at || f.Err != error(code) {
		t.Errorf("Parse(%.200q): error %v, want %v at %d", s, err, code, at)
	}
	if !reflect.DeepEqual(v, api.Value{}) {
		t.Errorf("Parse(%.200q): %v beside an error", s, v)
	}
}

// agrees holds what Parse answers against the machine and the library's reader.
func agrees(t *testing.T, s string) {
	t.Helper()
	if f := read(s); f != nil {
		fails(t, s, f.At, f.Err.(api.Code))
		return
	}
	answers(t, s, decoded(t, s))
}

// within: around a value, how much stands ahead of it, and how deep it stands.
var within = []struct{ ahead, behind string }{
	{"", ""},
	{" \n\r\t", "\t\r\n "},
	{"[", "]"},
	{"[ ", " ]"},
	{"[0,", ",1]"},
	{"[\"\\u00e9\", ", " , null]"},
	{"{\"a\":", "}"},
	{"{\"a\" : ", " }"},
	{"{\"€\":true,\"b\":", ",\"c\":[]}"},
	{"[[{\"a\":{\"b\":[", "]}}]]"},
}

func TestExamples(t *testing.T) {
	answers(t, " {\"a\":[1,-0,\"x\\u00e9\"]}", object(field("a", list(number(1), number(0), text("xé")))))
	fails(t, "", 0, api.ErrSyntax)
	fails(t, "[1,]", 3, api.ErrSyntax)
	fails(t, "{\"a\" 1}", 5, api.ErrSyntax)
	fails(t, "tru", 3, api.ErrSyntax)
	fails(t, "1 2", 2, api.ErrSyntax)
	fails(t, "1.5", 1, api.ErrSyntax)
	fails(t, "01", 1, api.ErrSyntax)
	fails(t, "-", 1, api.ErrSyntax)
	fails(t, "9007199254740992", 0, api.ErrNumber)
	answers(t, "[\"\\ud83d\\ude00\"]", list(text("😀")))
	fails(t, "\"\\ud83d\"", 1, api.ErrUtf)
	fails(t, "\"\\ude00\"", 1, api.ErrUtf)
	fails(t, "{\"a\":1,\"a\":2}", 7, api.ErrTwice)
	fails(t, strings.Repeat("[", 33), 32, api.ErrDepth)
	fails(t, "\"\\x\"", 2, api.ErrSyntax)

	two := object(field("a", number(1)), field("b", number(2)))
	gets(t, two, "b", number(2), true)
	gets(t, two, "c", api.Value{}, false)
	gets(t, number(7), "a", api.Value{}, false)
	if l := paths(json.Walk(list(number(1), object(field("a", list()))))); !slices.Equal(l, []string{"", "/0", "/1", "/1/a"}) {
		t.Errorf("Walk: %q", l)
	}
}

func TestValues(t *testing.T) {
	for s, want := range map[string]api.Value{
		"null": {}, "true": boolean(true), "false": boolean(false),
		"0": number(0), "-0": number(0), "7": number(7), "-7": number(-7), "10": number(10), "1234567890": number(1234567890),
		`""`: text(""), `"a"`: text("a"), `"null"`: text("null"), "\"é€😀\ufffd\"": text("é€😀\ufffd"), "\" \x7f\u0080\"": text(" \x7f\u0080"),
		"[]": list(), "[ \t]": list(), "[[]]": list(list()), "[null,true,[1],\"a\"]": list(api.Value{}, boolean(true), list(number(1)), text("a")),
		"{}": object(), "{\r\n}": object(), `{"":0}`: object(field("", number(0))),
		`{"b":1,"a":{"b":2},"c":{}}`: object(field("b", number(1)), field("a", object(field("b", number(2)))), field("c", object())),
	} {
		for _, w := range within {
			agrees(t, w.ahead+s+w.behind)
		}
		answers(t, s, want)
	}
}

func TestLength(t *testing.T) {
	blanks := strings.Repeat(" ", 65536)
	answers(t, blanks[:65535]+"7", number(7))
	answers(t, "7"+blanks[:65535], number(7))
	letters := strings.Repeat("a", 65534)
	answers(t, `"`+letters+`"`, text(letters))
	fails(t, blanks, 65536, api.ErrSyntax)
	fails(t, strings.Repeat("9", 65536), 0, api.ErrNumber)
	fails(t, `"`+letters+"a", 65536, api.ErrSyntax)
	for _, s := range []string{blanks + " ", blanks + "7", "7" + blanks, "x" + blanks, "\xff" + blanks, `"` + letters + `a"`, strings.Repeat("[", 65537), strings.Repeat("9", 65537), strings.Repeat(blanks, 3)} {
		if v, err := json.Parse(s); err != api.ErrLong || !reflect.DeepEqual(v, api.Value{}) {
			t.Errorf("Parse of %d bytes: %v, %v", len(s), v, err)
		}
	}
}

func TestManyNames(t *testing.T) {
	var b strings.Builder
	var fields []api.Field
	for i := 0; b.Len() < 65000; i++ {
		b.WriteString(",\"" + strconv.Itoa(i) + "\":" + strconv.Itoa(i))
		fields = append(fields, field(strconv.Itoa(i), number(int64(i))))
	}
	s := "{" + b.String()[1:]
	answers(t, s+"}", object(fields...))
	fails(t, s+`,"\u0030":0}`, len(s)+1, api.ErrTwice)
	fails(t, s+`,"`+strconv.Itoa(len(fields)-1)+`":0}`, len(s)+1, api.ErrTwice)
}

func TestNumbers(t *testing.T) {
	for s, want := range map[string]int64{
		"9007199254740991": 1<<53 - 1, "-9007199254740991": 1 - 1<<53, "9007199254740990": 1<<53 - 2,
		"1000000000000000": 1e15, "-1": -1, "90": 90, "0": 0, "-0": 0, "123456789": 123456789,
	} {
		answers(t, s, number(want))
		for _, w := range within {
			agrees(t, w.ahead+s+w.behind)
		}
	}
	tooGreat := []string{
		"9007199254740992", "-9007199254740992", "9007199254740993", "10000000000000000", "90071992547409910",
		"9223372036854775807", "-9223372036854775808", "9223372036854775808", "18446744073709551615", "18446744073709551616", "18446744073709551617", "-18446744073709551617",
		"1" + strings.Repeat("0", 64), "-1" + strings.Repeat("0", 400), strings.Repeat("9", 3000), "36893488147419103232", "184467440737095516160",
	}
	for _, s := range tooGreat {
		for _, w := range within {
			fails(t, w.ahead+s+w.behind, len(w.ahead), api.ErrNumber)
			fails(t, w.ahead+s, len(w.ahead), api.ErrNumber)
			for _, behind := range []string{".5", "e2", "x", "-", " 1", "\xff", "\"", "0", "00"} {
				fails(t, w.ahead+s+behind, len(w.ahead), api.ErrNumber)
			}
		}
	}
	amiss := map[string]int{
		"-": 1, "--1": 1, "+1": 0, "- 1": 1, "-a": 1, "-.5": 1, ".5": 0, "1.5": 1, "1.": 1, "1e2": 1, "1E2": 1, "12e2": 2, "-1.5": 2, "0.5": 1, "-0.5": 2, "0e1": 1,
		"01": 1, "00": 1, "-01": 2, "-00": 2, "007": 1, "0x1": 1, "1a": 1, "1_0": 1, "1 0": 2, "1-": 1, "9007199254740991.5": 16,
		"NaN": 0, "Infinity": 0, "-Infinity": 1, "\uff11": 0, "1\u0660": 1,
	}
	for s, at := range amiss {
		fails(t, s, at, api.ErrSyntax)
		for _, w := range within {
			fails(t, w.ahead+s+w.behind, len(w.ahead)+at, api.ErrSyntax)
		}
	}
}

func TestEscapes(t *testing.T) {
	for c, want := range map[string]string{`"`: `"`, `\`: `\`, "/": "/", "b": "\x08", "f": "\x0c", "n": "\x0a", "r": "\x0d", "t": "\x09"} {
		answers(t, `"\`+c+`"`, text(want))
		answers(t, `["x\`+c+`y\`+c+`"]`, list(text("x"+want+"y"+want)))
		answers(t, `{"\`+c+`":1}`, object(field(want, number(1))))
	}
	for b := range 256 {
		if c := string([]byte{byte(b)}); !strings.Contains(`"\/bfnrtu`, c) {
			code := api.ErrSyntax
			if b >= 0x80 {
				code = api.ErrUtf
			}
			fails(t, `"\`+c+`"`, 2, code)
			fails(t, `["é\`+c, 5, code)
		}
	}
	fails(t, `"\é"`, 2, api.ErrSyntax)
	fails(t, `"\😀"`, 2, api.ErrSyntax)
	fails(t, `"\`, 2, api.ErrSyntax)
	fails(t, `["\"]`, 5, api.ErrSyntax)
}

// written is a number's escape in three writings: small letters, great ones, both.
func written(n int) []string {
	small := strconv.FormatInt(int64(n)+0x10000, 16)[1:]
	great := strings.ToUpper(small)
	return []string{`\u` + small, `\u` + great, `\u` + small[:2] + great[2:], `\u` + great[:1] + small[1:3] + great[3:]}
}

func TestEveryNumberedEscape(t *testing.T) {
	for n := range 0x10000 {
		for _, w := range written(n) {
			if n >= 0xd800 && n <= 0xdfff {
				fails(t, `"`+w+`"`, 1, api.ErrUtf)
				continue
			}
			answers(t, `"`+w+`"`, text(string(rune(n))))
		}
	}
}

func TestPairs(t *testing.T) {
	highs := []int{0xd800, 0xd801, 0xd83d, 0xdbfe, 0xdbff}
	lows := []int{0xdc00, 0xdc01, 0xde00, 0xdffe, 0xdfff}
	for _, high := range highs {
		for _, low := range lows {
			point, err := utf.Pair(high, low)
			if err != nil {
				t.Fatal(err)
			}
			for i, h := range written(high) {
				l := written(low)[(i+1)%4]
				answers(t, `"`+h+l+`"`, text(string(rune(point))))
				answers(t, `{"`+h+l+`":"a`+h+l+h+l+`z"}`, object(field(string(rune(point)), text("a"+string(rune(point))+string(rune(point))+"z"))))
			}
		}
	}
	for high := 0xd800; high <= 0xdbff; high++ {
		low := 0xdc00 + (high*37)%0x400
		point, _ := utf.Pair(high, low)
		answers(t, `"`+written(high)[0]+written(low)[0]+`"`, text(string(rune(point))))
	}
	for n := range 0x10000 {
		s := `["a` + `\ud83d` + written(n)[0] + `"]`
		if n >= 0xdc00 && n <= 0xdfff {
			answers(t, s, list(text("a"+string(rune(0x10000+0x3d<<10+n-0xdc00)))))
			continue
		}
		fails(t, s, 3, api.ErrUtf)
	}
}

func TestHalves(t *testing.T) {
	for _, w := range []struct{ ahead, behind string }{{`"`, `"`}, {`["`, `"]`}, {`"é`, `"`}, {`{"`, `":1}`}, {`{"a":"`, `"}`}, {` {"a\n": [ "x\u00e9`, `"`}} {
		at := len(w.ahead)
		for _, s := range []string{
			`\ud83d`, `\ud83dx`, `\ud83d\`, `\ud83d\n`, `\ud83d\x`, `\ud83d\\`, `\ud83d\\ude00`, `\ud83d\"`, `\ud83d\u`, `\ud83d\ux`, `\ud83d\ud`, `\ud83d\ude`, `\ud83d\ude0`, `\ud83d\ude0x`, `\ud83d\udeg0`, `\ud83d\ude 0`,
			`\ud83d\u0041`, `\ud83d\ud83d`, `\ud83d\ud83d\ude00`, `\ud83d\udbff`, `\ud83d\ue000`, `\ud83d\U0041`, `\ud83d\Ude00`, `\ud83d \ude00`, `\ud83dude00`,
			"\\ud83d\xff", "\\ud83d\\\xff", "\\ud83d\\u\xff", "\\ud83d\\ude0\xff", "\\ud83d\\ude\u00e9", "\\ud83d\x00", "\\ud83d\\\x00", "\\ud83d\u00e9",
			`\ude00`, `\ude00\ud83d`, `\ude00\ude00`, `\udc00\ud800`, `\udfff`, `\udc00x`, `\udc00\`, "\\udc00\xff", `\uD800`, `\uDBFF`, `\uDC00`, `\uDFFF`,
		} {
			fails(t, w.ahead+s+w.behind, at, api.ErrUtf)
			fails(t, w.ahead+s, at, api.ErrUtf)
		}
		// Cut off ahead of its last digit a half is none yet.
		for _, s := range []string{`\`, `\u`, `\ud`, `\ud8`, `\ud83`, `\ude`, `\ude0`, `\uD`, `\u0`, `\u00e`} {
			fails(t, w.ahead+s, at+len(s), api.ErrSyntax)
			if len(s) > 1 {
				fails(t, w.ahead+s+w.behind, at+len(s), api.ErrSyntax)
				fails(t, w.ahead+s+`g`, at+len(s), api.ErrSyntax)
				fails(t, w.ahead+s+` 0000`, at+len(s), api.ErrSyntax)
				fails(t, w.ahead+s+"\xff0000", at+len(s), api.ErrUtf)
			}
		}
		// A pair, and then a half alone.
		fails(t, w.ahead+`\ud83d\ude00\ude00`+w.behind, at+12, api.ErrUtf)
		fails(t, w.ahead+`\ud83d\ude00\ud83d`+w.behind, at+12, api.ErrUtf)
		fails(t, w.ahead+`x\n\u00e9\ud83d`+w.behind, at+9, api.ErrUtf)
	}
}

func TestDigitsOfEscapes(t *testing.T) {
	for b := range 256 {
		c := string([]byte{byte(b)})
		for i := range 4 {
			s := `"\u` + "00e9"[:i] + c + "00e9"[i+1:] + `"`
			if !strings.Contains("0123456789abcdefABCDEF", c) {
				code := api.ErrSyntax
				if b >= 0x80 {
					code = api.ErrUtf
				}
				fails(t, s, 3+i, code)
				continue
			}
			n, err := strconv.ParseInt(s[3:7], 16, 32)
			if err != nil {
				t.Fatal(err)
			}
			if n < 0xd800 || n > 0xdfff {
				answers(t, s, text(string(rune(n))))
			}
		}
	}
}

// broken: bytes at whose place 0 no character's bytes stand whole.
var broken = []string{
	"\x80", "\xbf", "\xc0", "\xfe", "\xff",
	"\xc3", "\xe2", "\xe2\x82", "\xf0", "\xf0\x9f", "\xf0\x9f\x98", "\xef\xbf",
	"\xc0\x80", "\xe0\x80\x80", "\xf0\x80\x80\x80",
	"\xed\xa0\x80", "\xed\xbf\xbf", "\xed\xa0\xbd\xed\xb8\x80",
	"\xf4\x90\x80\x80", "\xf8\x88\x80\x80\x80",
}

func TestBytesThatAreNoCharacter(t *testing.T) {
	texts := []struct{ ahead, behind string }{{`"`, `"`}, {`["`, `"]`}, {`"a`, `b"`}, {"\"é€😀\ufffd", `"`}, {`{"`, `":1}`}, {`{"a":"x\u00e9\n`, `"}`}, {` [ 1 , "`, `" ] `}}
	for _, b := range broken {
		for _, w := range texts {
			fails(t, w.ahead+b+w.behind, len(w.ahead), api.ErrUtf)
			fails(t, w.ahead+b, len(w.ahead), api.ErrUtf)
		}
		for _, w := range within {
			fails(t, w.ahead+b+w.behind, len(w.ahead), api.ErrSyntax)
			fails(t, w.ahead+"1"+b+w.behind, len(w.ahead)+1, api.ErrSyntax)
			fails(t, w.ahead+"tr"+b+w.behind, len(w.ahead)+2, api.ErrSyntax)
			fails(t, w.ahead+`"a"`+b+w.behind, len(w.ahead)+3, api.ErrSyntax)
			fails(t, w.ahead+`{`+b+w.behind, len(w.ahead)+1, api.ErrSyntax)
		}
	}
}

func TestEveryByteInAText(t *testing.T) {
	for b := range 256 {
		c := string([]byte{byte(b)})
		switch {
		case c == `"` || c == `\`:
			continue
		case b < 32:
			fails(t, `"`+c+`"`, 1, api.ErrSyntax)
			fails(t, `["aé`+c+`"]`, 5, api.ErrSyntax)
			fails(t, `{"`+c+`":1}`, 2, api.ErrSyntax)
			fails(t, `{"a":"`+c, 6, api.ErrSyntax)
		case b < 128:
			answers(t, `"`+c+`"`, text(c))
			answers(t, `{"`+c+`":"x`+c+`"}`, object(field(c, text("x"+c))))
		default:
			fails(t, `"`+c+`"`, 1, api.ErrUtf)
		}
	}
}

func TestEveryByteInPlaceOfAValue(t *testing.T) {
	for b := range 256 {
		c := string([]byte{byte(b)})
		for _, w := range within {
			agrees(t, w.ahead+c+w.behind)
			agrees(t, w.ahead+c)
			agrees(t, w.ahead+"1"+c+w.behind)
			agrees(t, w.ahead+c+"1"+w.behind)
		}
	}
}

func TestWords(t *testing.T) {
	for _, word := range []string{"null", "true", "false"} {
		for i := 1; i < len(word); i++ {
			fails(t, word[:i], i, api.ErrSyntax)
			fails(t, word[:i]+" "+word[i:], i, api.ErrSyntax)
			fails(t, "["+word[:i]+"]", 1+i, api.ErrSyntax)
			fails(t, word[:i]+strings.ToUpper(word[i:]), i, api.ErrSyntax)
			fails(t, word[:i]+"\x00", i, api.ErrSyntax)
		}
		fails(t, strings.ToUpper(word), 0, api.ErrSyntax)
		fails(t, word+word, len(word), api.ErrSyntax)
		fails(t, word+"x", len(word), api.ErrSyntax)
	}
}

// nested is n brackets, lists and objects by turns as pattern tells, and what closes them.
func nested(n int, pattern string) (string, string) {
	var open, shut string
	for i := range n {
		if pattern[i%len(pattern)] == '[' {
			open, shut = open+"[", "]"+shut
		} else {
			open, shut = open+`{"a":`, "}"+shut
		}
	}
	return open, shut
}

func depthOf(v api.Value) int {
	deepest := 0
	for _, x := range v.List {
		deepest = max(deepest, depthOf(x))
	}
	for _, f := range v.Fields {
		deepest = max(deepest, depthOf(f.Value))
	}
	if v.Kind == api.List || v.Kind == api.Object {
		deepest++
	}
	return deepest
}

func TestDepth(t *testing.T) {
	for _, pattern := range []string{"[", "{", "[{", "{[", "[[{", "{{["} {
		for n := 1; n <= 32; n++ {
			open, shut := nested(n, pattern)
			v, err := json.Parse(open + "1" + shut)
			if err != nil || depthOf(v) != n {
				t.Errorf("%d brackets of %s: %v, %v", n, pattern, v, err)
			}
			agrees(t, open+"1"+shut)
		}
		open, shut := nested(32, pattern)
		for _, bracket := range []string{"[", "{", "[]", "{}", "[1]", "[x", "{x", "[\"\xff\"]", "[9007199254740992]", "[[", "{\"a\":1,\"a\":2}"} {
			fails(t, open+bracket+shut, len(open), api.ErrDepth)
			fails(t, open+"  "+bracket, len(open)+2, api.ErrDepth)
		}
	}
	// Those beside one another are not within one another.
	answersDepth(t, "["+strings.Repeat("[[]],", 100)+"{}]", 3)
	side := strings.Repeat("[", 31) + "[],{},[],[]" + strings.Repeat("]", 31)
	answersDepth(t, side, 32)
	fails(t, strings.Repeat("[", 31)+"[],{},[[]]", 31+7, api.ErrDepth)
	// A bracket in a text is none.
	answers(t, `"`+strings.Repeat("[", 100)+`"`, text(strings.Repeat("[", 100)))
	fails(t, strings.Repeat("[", 65536), 32, api.ErrDepth)
}

func answersDepth(t *testing.T, s string, depth int) {
	t.Helper()
	v, err := json.Parse(s)
	if err != nil || depthOf(v) != depth {
		t.Errorf("Parse(%.200q): %d deep, %v, want %d", s, depthOf(v), err, depth)
	}
	agrees(t, s)
}

func TestTwice(t *testing.T) {
	for s, at := range map[string]int{
		`{"a":1,"a":1}`:                         7,
		`{"a":1,"b":2,"a":3}`:                   13,
		`{"a":1,"b":2,"b":3}`:                   13,
		`{"":1,"":2}`:                           6,
		`{"a":1, "\u0061":2}`:                   8,
		`{"\u0061":1,"a":2}`:                    12,
		`{"\u0061":1 ,` + "\n" + `"\u0061":2}`:  14,
		`{"/":1,"\/":2}`:                        7,
		`{"\n":1,"\u000A":2}`:                   8,
		`{"é":1,"\u00E9":2}`:                    8,
		`{"😀":1,"\uD83D\ude00":2}`:              10,
		`[{"a":{"b":1,"b":2}}]`:                 13,
		`{"b":{"a":1},"c":{"a":2},"b":3}`:       25,
		`{"a":1,"a"`:                            7,
		`{"a":1,"a" x`:                          7,
		`{"a":1,"a"` + "\xff":                   7,
		`{"a":1,"a":x}`:                         7,
		`{"a":1,"a":9007199254740992}`:          7,
		`{"a":{"a":{"a":0,"b":1,"a":2}},"a":1}`: 23,
	} {
		fails(t, s, at, api.ErrTwice)
		for _, w := range within {
			fails(t, w.ahead+s, len(w.ahead)+at, api.ErrTwice)
		}
	}
	// Not in the same object, not the same name, or not whole yet.
	for _, s := range []string{`{"a":{"a":{"a":1}}}`, `[{"a":1},{"a":2}]`, `{"a":1,"A":2,"aa":3,"":4," a":5}`, `{"a":{"b":1},"b":{"a":2}}`, `{"a":"a","b":"a"}`, `["a","a"]`, `{"é":1,"e\u0301":2}`} {
		answers(t, s, decoded(t, s))
	}
	fails(t, `{"a":1,"a`, 9, api.ErrSyntax)
	fails(t, `{"a":1,"a\x"`, 10, api.ErrSyntax)
	fails(t, "{\"a\":1,\"a\xff\"", 9, api.ErrUtf)
	fails(t, `{"a":1,a:2}`, 7, api.ErrSyntax)
}

func TestBrackets(t *testing.T) {
	for s, at := range map[string]int{
		"[": 1, "]": 0, "[,": 1, "[,]": 1, "[1": 2, "[1 ": 3, "[1,": 3, "[1, ": 4, "[1,,2]": 3, "[1 2]": 3, "[1:2]": 2, "[1}": 2, "[}": 1, "[]]": 2, "[] []": 3, "[1] 2": 4, "[][": 2,
		"{": 1, "}": 0, "{,": 1, "{,}": 1, "{1": 1, "{1:2}": 1, "{a:1}": 1, "{'a':1}": 1, "{null:1}": 1, "{[]:1}": 1, "{]": 1, "{:1}": 1,
		`{"a"`: 4, `{"a" `: 5, `{"a"}`: 4, `{"a",`: 4, `{"a"::1}`: 5, `{"a":`: 5, `{"a":}`: 5, `{"a":,`: 5, `{"a":1`: 6, `{"a":1,`: 7, `{"a":1,}`: 7, `{"a":1, }`: 8, `{"a":1,,`: 7, `{"a":1]`: 6, `{"a":1 "b":2}`: 7, `{"a":1:`: 6, `{"a":1}}`: 7, `{"a":1,"b"`: 10, `{"a"=1}`: 4, `{"a":1;"b":2}`: 6,
		`"a" "b"`: 4, `"a""b"`: 3, `"a`: 2, `"`: 1, `'a'`: 0, `"a",`: 3, "1,": 1, "1]": 1, "null,": 4, ",": 0, ":": 0, "\\": 0, "x": 0, "//": 0, "[1/**/]": 2, "\x00": 0, "1\x00": 1,
	} {
		fails(t, s, at, api.ErrSyntax)
	}
}

func TestBlanks(t *testing.T) {
	pieces := []string{"", "{", `"a b"`, ":", "[", "1", ",", "-2", ",", `"x y"`, ",", "null", ",", "[", "]", ",", "{", "}", ",", "true", "]", ",", `"c"`, ":", "false", "}", ""}
	want := object(field("a b", list(number(1), number(-2), text("x y"), api.Value{}, list(), object(), boolean(true))), field("c", boolean(false)))
	answers(t, strings.Join(pieces, ""), want)
	for _, blank := range []string{" ", "\n", "\r", "\t", " \n\r\t", "\t\t\r\r\n\n  "} {
		answers(t, strings.Join(pieces, blank), want)
		for i := range pieces {
			s := slices.Clone(pieces)
			s[i] += blank
			answers(t, strings.Join(s, ""), want)
		}
	}
	// What is no blank may stand nowhere.
	for _, other := range []string{"\x00", "\x0b", "\x0c", "\x08", "\x1f", "\x7f", "\u0085", "\u00a0", "\u2028", "\ufeff", "\u3000"} {
		for i := range len(pieces) - 1 {
			ahead, behind := strings.Join(pieces[:i+1], ""), strings.Join(pieces[i+1:], "")
			fails(t, ahead+other+behind, len(ahead), api.ErrSyntax)
			fails(t, ahead+" "+other, len(ahead)+1, api.ErrSyntax)
		}
	}
}

func TestFirstFault(t *testing.T) {
	kinds := []struct {
		s    string
		at   int
		code api.Code
	}{
		{"x", 0, api.ErrSyntax}, {"1.5", 1, api.ErrSyntax}, {`"\x"`, 2, api.ErrSyntax}, {"\"\x01\"", 1, api.ErrSyntax}, {"tru,", 3, api.ErrSyntax},
		{"\"\xff\"", 1, api.ErrUtf}, {`"\ud83d"`, 1, api.ErrUtf}, {`"a\ude00"`, 2, api.ErrUtf},
		{"9007199254740992", 0, api.ErrNumber}, {"-9007199254740992", 0, api.ErrNumber},
		{`{"a":1,"a":2}`, 7, api.ErrTwice}, {strings.Repeat("[", 40), 31, api.ErrDepth},
	}
	for _, first := range kinds {
		for _, second := range kinds {
			fails(t, "["+first.s+","+second.s+"]", 1+first.at, first.code)
			fails(t, "["+first.s+","+second.s, 1+first.at, first.code)
			fails(t, `{"b":`+first.s+`,"b":`+second.s+"}", 5+first.at, first.code)
			fails(t, `{"b":0, "c" : `+first.s+second.s+"}", 14+first.at, first.code)
		}
		for _, w := range within {
			agrees(t, w.ahead+first.s+w.behind)
			agrees(t, w.ahead+first.s)
		}
	}
}

// sequences calls f with every row of at most so many of the pieces, all of them behind s.
func sequences(s string, pieces []string, most int, f func(string)) {
	f(s)
	if most == 0 {
		return
	}
	for _, p := range pieces {
		sequences(s+p, pieces, most-1, f)
	}
}

func TestAllShortTexts(t *testing.T) {
	count := 0
	check := func(s string) { count++; agrees(t, s) }
	sequences("", []string{"[", "]", "{", "}", ",", ":", `"a"`, "1", " "}, 6, check)
	sequences(`{"a":1`, []string{"}", ",", ":", `"a"`, `"b"`, `"\u0061"`, "0", "["}, 5, check)
	sequences("", []string{"-", "0", "1", "9007199254740992", "9007199254740991", ".", "e", " ", "[", ","}, 5, check)
	sequences(`"`, []string{`"`, `\`, "u", "n", "00e9", "d8", "3d", "dc", "DF", "\xff", "\x01", "é"}, 5, check)
	sequences(`{"`, []string{`"`, `\`, `\u`, `d83d`, `\ude00`, `:`, "\xe2\x82", "\xac"}, 5, check)
	sequences(`"\ud83d`, []string{`"`, `\`, "u", "d", "c", "0", "g"}, 6, check)
	if count < 500000 {
		t.Errorf("only %d texts", count)
	}
}

func TestEveryChangeOfAText(t *testing.T) {
	for _, s := range []string{
		` {"a":[1,-20,"x\u00e9\ud83d\ude00\n"], "é": {"b" : null, "c":true } ,"":[ ],"d":{ }}` + "\n",
		`[[false],"€😀\\\/",9007199254740991,{"a":{"a":0}}]`,
		`"\uD83D\uDE00"`,
	} {
		agrees(t, s)
		for i := range len(s) + 1 {
			agrees(t, s[:i])
			if i < len(s) {
				agrees(t, s[:i]+s[i+1:])
			}
			for b := range 256 {
				c := string([]byte{byte(b)})
				agrees(t, s[:i]+c+s[i:])
				if i < len(s) {
					agrees(t, s[:i]+c+s[i+1:])
				}
			}
		}
	}
}

func FuzzParse(f *testing.F) {
	f.Add(` {"a":[1,-0,"x\u00e9\ud83d\ude00"],"b":{}}`)
	f.Fuzz(func(t *testing.T, s string) {
		if len(s) <= api.MaxBody {
			agrees(t, s)
		}
	})
}

func gets(t *testing.T, v api.Value, name string, want api.Value, found bool) {
	t.Helper()
	got, ok := json.Get(v, name)
	if ok != found || !same(got, want) {
		t.Errorf("Get(%v, %q): %v, %v, want %v, %v", v, name, got, ok, want, found)
	}
	if !found && !reflect.DeepEqual(got, api.Value{}) {
		t.Errorf("Get(%v, %q): %v beside false", v, name, got)
	}
}

// odd: a value that has what its kind doesn't use.
func odd(kind int) api.Value {
	return api.Value{Kind: kind, Bool: true, Int: 1 << 60, Text: "\xff", List: []api.Value{number(1), list(number(2))}, Fields: []api.Field{field("a", number(3)), field("b", list(text("x")))}}
}

var kinds = []int{-1, api.Null, api.Bool, api.Int, api.Text, api.List, api.Object, 6, 1 << 40}

func TestGet(t *testing.T) {
	twice := object(field("b", number(0)), field("a", list(number(1))), field("a", number(2)), field("", text("x")), field("\xff", number(4)), field("b", number(5)))
	gets(t, twice, "a", list(number(1)), true)
	gets(t, twice, "b", number(0), true)
	gets(t, twice, "", text("x"), true)
	gets(t, twice, "\xff", number(4), true)
	for _, name := range []string{"c", "A", "aa", "a ", "\x00", "\ufffd", "/a"} {
		gets(t, twice, name, api.Value{}, false)
	}
	gets(t, object(), "", api.Value{}, false)
	gets(t, object(), "a", api.Value{}, false)
	gets(t, object(field("a", object(field("b", number(1))))), "b", api.Value{}, false)
	gets(t, object(field("a", api.Value{})), "a", api.Value{}, true)
	gets(t, list(object(field("a", number(1)))), "a", api.Value{}, false)
	for _, kind := range kinds {
		if kind == api.Object {
			gets(t, odd(kind), "b", list(text("x")), true)
		} else {
			gets(t, odd(kind), "b", api.Value{}, false)
		}
		gets(t, object(field("o", odd(kind))), "o", odd(kind), true)
	}
	v, err := json.Parse(`{"a":{"b":[1,{"c":"d"}]}}`)
	if err != nil {
		t.Fatal(err)
	}
	gets(t, v, "a", object(field("b", list(number(1), object(field("c", text("d")))))), true)
}

type step struct {
	path  string
	value api.Value
}

// steps are what a walk is to give: written from the promise, with a list of what is left instead of calls.
func steps(v api.Value) []step {
	left := []step{{"", v}}
	var gone []step
	for len(left) > 0 {
		s := left[0]
		gone = append(gone, s)
		var inner []step
		if s.value.Kind == api.List {
			for i, x := range s.value.List {
				inner = append(inner, step{s.path + "/" + strconv.Itoa(i), x})
			}
		}
		if s.value.Kind == api.Object {
			for _, f := range s.value.Fields {
				inner = append(inner, step{s.path + "/" + f.Name, f.Value})
			}
		}
		left = append(inner, left[1:]...)
	}
	return gone
}

func walked(walk func(func(string, api.Value) bool)) []step {
	var l []step
	for p, v := range walk {
		l = append(l, step{p, v})
	}
	return l
}

func paths(walk func(func(string, api.Value) bool)) []string {
	var l []string
	for _, s := range walked(walk) {
		l = append(l, s.path)
	}
	return l
}

func sameSteps(a, b []step) bool {
	return slices.EqualFunc(a, b, func(x, y step) bool { return x.path == y.path && same(x.value, y.value) })
}

func walkable() []api.Value {
	twelve := make([]api.Value, 12)
	for i := range twelve {
		twelve[i] = list(number(int64(i)))
	}
	all := []api.Value{
		{}, number(1), text("a"), boolean(true), list(), object(),
		list(number(1), object(field("a", list()))),
		list(twelve...),
		object(field("", list(number(1))), field("a/b", object(field("~", number(2)))), field("a", number(3)), field("a", list(number(4))), field("\xff", text("\xfe"))),
		list(list(list(number(1)), number(2)), object(field("x", object(field("y", list(number(3))))), field("z", text("4"))), number(5)),
	}
	for _, kind := range kinds {
		all = append(all, odd(kind), list(odd(kind), object(field("o", odd(kind)))))
	}
	return all
}

func TestWalk(t *testing.T) {
	for _, v := range walkable() {
		walk := json.Walk(v)
		if walk == nil {
			t.Fatalf("Walk(%v): nil", v)
		}
		for range 3 {
			if l := walked(walk); !sameSteps(l, steps(v)) {
				t.Errorf("Walk(%v): %v, want %v", v, l, steps(v))
			}
		}
	}
	deep := object(field("x", list(number(1), object(field("y", text("z"))))), field("w", number(2)))
	want := []step{{"", deep}, {"/x", deep.Fields[0].Value}, {"/x/0", number(1)}, {"/x/1", object(field("y", text("z")))}, {"/x/1/y", text("z")}, {"/w", number(2)}}
	if l := walked(json.Walk(deep)); !sameSteps(l, want) {
		t.Errorf("Walk(%v): %v", deep, l)
	}
}

func TestWalkLeftEarly(t *testing.T) {
	for _, v := range walkable() {
		walk := json.Walk(v)
		all := steps(v)
		for most := range len(all) {
			calls := 0
			walk(func(path string, x api.Value) bool {
				if calls > most || path != all[calls].path || !same(x, all[calls].value) {
					t.Errorf("Walk(%v) left behind %d: %q is given", v, most, path)
				}
				calls++
				return calls <= most
			})
			if calls != most+1 {
				t.Errorf("Walk(%v) left behind %d: %d calls", v, most, calls)
			}
			if l := walked(walk); !sameSteps(l, all) {
				t.Errorf("Walk(%v) again: %v", v, l)
			}
		}
	}
}

func TestWalkWithinItself(t *testing.T) {
	for _, v := range walkable() {
		walk := json.Walk(v)
		all := steps(v)
		at := 0
		for path, x := range walk {
			if path != all[at].path || !same(x, all[at].value) {
				t.Errorf("Walk(%v): %q at %d", v, path, at)
			}
			at++
			for range walk {
				break
			}
			if l := walked(walk); !sameSteps(l, all) {
				t.Errorf("Walk(%v) within itself: %v", v, l)
			}
		}
		if at != len(all) {
			t.Errorf("Walk(%v): %d values, want %d", v, at, len(all))
		}
	}
}

func TestDeepValues(t *testing.T) {
	v := number(1)
	for i := range 2000 {
		if i%2 == 0 {
			v = list(v)
		} else {
			v = object(field("a", v))
		}
	}
	count, last := 0, ""
	for path := range json.Walk(v) {
		count, last = count+1, path
	}
	if count != 2001 || last != strings.Repeat("/a/0", 1000) {
		t.Errorf("Walk: %d values, the last path of %d bytes", count, len(last))
	}
	got, ok := json.Get(object(field("v", v)), "v")
	if !ok || !same(got, v) {
		t.Error("Get of a deep value")
	}
}

// scribble changes all that a value's lists hold, their spare room too.
func scribble(v api.Value) {
	for i := range v.List[:cap(v.List)] {
		scribble(v.List[:cap(v.List)][i])
		v.List[:cap(v.List)][i] = text("scribbled")
	}
	for i := range v.Fields[:cap(v.Fields)] {
		scribble(v.Fields[:cap(v.Fields)][i].Value)
		v.Fields[:cap(v.Fields)][i] = field("scribbled", text("scribbled"))
	}
}

// roomy is v with spare room, whatever that holds, behind each of its lists.
func roomy(v api.Value) api.Value {
	var l []api.Value
	for _, x := range v.List {
		l = append(l, roomy(x))
	}
	if len(l) > 0 {
		v.List = append(l, text("spare"))[:len(l)]
	}
	var fields []api.Field
	for _, f := range v.Fields {
		fields = append(fields, field(f.Name, roomy(f.Value)))
	}
	if len(fields) > 0 {
		v.Fields = append(fields, field("spare", text("spare")))[:len(fields)]
	}
	return v
}

// spare tells the values in the spare room of v's lists and of those within.
func spare(v api.Value) []string {
	var l []string
	for i, x := range v.List[:cap(v.List)] {
		if i >= len(v.List) {
			l = append(l, x.Text)
		}
		l = append(l, spare(x)...)
	}
	for i, f := range v.Fields[:cap(v.Fields)] {
		if i >= len(v.Fields) {
			l = append(l, f.Name+f.Value.Text)
		}
		l = append(l, spare(f.Value)...)
	}
	return l
}

func TestMemory(t *testing.T) {
	for _, v := range walkable() {
		given := object(field("v", roomy(v)))
		room := spare(given)
		got, _ := json.Get(given, "v")
		scribble(got)
		walk := json.Walk(given)
		for range 2 {
			at := 0
			all := steps(object(field("v", v)))
			for path, x := range walk {
				if path != all[at].path || !same(x, all[at].value) {
					t.Errorf("Walk(%v): %q, %v behind a change of what it gave", v, path, x)
				}
				scribble(x)
				at++
			}
		}
		if !same(given, object(field("v", v))) || !slices.Equal(room, spare(given)) {
			t.Errorf("%v: what was handed in has changed", v)
		}
		// What the owner does with it later on changes no answer.
		got, _ = json.Get(given, "v")
		scribble(given)
		if !same(got, v) {
			t.Errorf("Get of %v changed with what was handed in: %v", v, got)
		}
		if l := walked(walk); !sameSteps(l, steps(object(field("v", v)))) {
			t.Errorf("Walk(%v) changed with what was handed in: %v", v, l)
		}
	}
	bytes := []byte(`{"abc":"defghijklmnopqrstuvwxyz"}`)
	v, err := json.Parse(unsafe.String(&bytes[0], len(bytes)))
	if err != nil {
		t.Fatal(err)
	}
	clear(bytes)
	if !same(v, object(field("abc", text("defghijklmnopqrstuvwxyz")))) {
		t.Errorf("Parse keeps what it was handed: %v", v)
	}
	// No two lists of an answer share memory.
	v, err = json.Parse(`[[1,2,3],[1,2,3],{"a":[4],"b":[4]}]`)
	if err != nil {
		t.Fatal(err)
	}
	scribble(v.List[0])
	scribble(v.List[2].Fields[0].Value)
	if !same(v.List[1], list(number(1), number(2), number(3))) || !same(v.List[2].Fields[1].Value, list(number(4))) {
		t.Errorf("lists of one answer share memory: %v", v)
	}
}

// What Parse answers of whatever is within the bounds that the last promise tells.
func TestWhatFollows(t *testing.T) {
	var deepest, values int
	check := func(s string) {
		v, err := json.Parse(s)
		if err != nil {
			return
		}
		values++
		deepest = max(deepest, depthOf(v))
		holdsBounds(t, s, v)
	}
	for n := 30; n < 36; n++ {
		for _, pattern := range []string{"[", "{", "[{"} {
			open, shut := nested(n, pattern)
			check(open + "9007199254740991" + shut)
			check(open + "9007199254740992" + shut)
			check(open + "\"\xff\"" + shut)
			check(open + `{"a":1,"a":1}` + shut)
		}
	}
	sequences("", []string{"1", ",", "[", "]", `{"a":`, `"b":`, "}"}, 7, check)
	if deepest != 32 || values < 70 {
		t.Errorf("%d values, the deepest %d", values, deepest)
	}
}

func holdsBounds(t *testing.T, s string, v api.Value) {
	t.Helper()
	for _, x := range steps(v) {
		x := x.value
		names := map[string]bool{}
		for _, f := range x.Fields {
			if names[f.Name] || utf.Bad(f.Name) != -1 {
				t.Errorf("Parse(%q): the name %q", s, f.Name)
			}
			names[f.Name] = true
		}
		if utf.Bad(x.Text) != -1 || x.Int > 1<<53-1 || x.Int < 1-1<<53 {
			t.Errorf("Parse(%q): %v", s, x)
		}
		// What its kind doesn't use is zero.
		bare := api.Value{Kind: x.Kind}
		switch x.Kind {
		case api.Bool:
			bare.Bool = x.Bool
		case api.Int:
			bare.Int = x.Int
		case api.Text:
			bare.Text = x.Text
		case api.List:
			bare.List = x.List
		case api.Object:
			bare.Fields = x.Fields
		}
		if !same(bare, x) || x.Kind < api.Null || x.Kind > api.Object {
			t.Errorf("Parse(%q): %v has what its kind doesn't use", s, x)
		}
	}
}
