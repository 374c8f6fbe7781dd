package canon_test

import (
	"fmt"
	"math"
	"math/rand"
	"reflect"
	"slices"
	"strconv"
	"strings"
	"testing"
	"unsafe"

	"covey/api"
	"covey/canon"
	"covey/json"
)

func boolean(b bool) api.Value        { return api.Value{Kind: api.Bool, Bool: b} }
func number(n int64) api.Value        { return api.Value{Kind: api.Int, Int: n} }
func text(s string) api.Value         { return api.Value{Kind: api.Text, Text: s} }
func list(l ...api.Value) api.Value   { return api.Value{Kind: api.List, List: l} }
func object(f ...api.Field) api.Value { return api.Value{Kind: api.Object, Fields: f} }
func field(name string, v api.Value) api.Field {
	return api.Field{Name: name, Value: v}
}

const greatest = 9007199254740991

// broken: bytes that are no characters.
var broken = []string{
	"\x80", "\xbf", "\xc0", "\xfe", "\xff", "\xc3", "\xe2", "\xe2\x82", "\xf0\x9f\x98", "\xef\xbf", "a\xff", "é\xc3", "\ufffd\xff",
	"\xc0\x80", "\xe0\x80\x80", "\xf0\x80\x80\x80", "\xed\xa0\x80", "\xed\xbf\xbf", "\xed\xa0\xbd\xed\xb8\x80", "\xf4\x90\x80\x80", "\xf8\x88\x80\x80\x80",
}

// noKinds: numbers that are no kind.
var noKinds = []int{6, 7, -1, -5, 100, 1 << 32, 1<<32 + 3, math.MaxInt, math.MinInt}

// someNames, in an order that is not that of their characters.
func someNames() []string {
	return []string{"b", "a", "", "ab", "z", "é", "A", "\uffff", "😀", "\ue000", "\ufffd", "€", "\x00", "\x1f", "10", "9", "\"", "\\", "/", "a\n", "a b", "\x7f", "\u0080", "\U0010ffff"}
}

// told: values of each kind that can be told.
func told() []api.Value {
	return []api.Value{
		{}, boolean(true), boolean(false),
		number(0), number(1), number(-1), number(10), number(-907), number(greatest), number(-greatest),
		text(""), text("a"), text("é€😀"), text("\x00\x07\n\"\\/\x7f"), text("null"), text("1"),
		list(), list(api.Value{}), list(list(), object()), list(number(2), number(1)),
		object(), object(field("", api.Value{})), object(field("b", number(1)), field("a", number(2))), object(field("a", object(field("c", list()), field("b", list())))),
	}
}

// untold: values that can't be told.
func untold() []api.Value {
	all := []api.Value{
		number(greatest + 1), number(-greatest - 1), number(greatest + 2), number(1 << 54), number(1<<53 + 1<<32), number(math.MaxInt64), number(math.MinInt64), number(-math.MaxInt64),
		object(field("a", api.Value{}), field("a", api.Value{})),
		object(field("a", number(1)), field("b", number(2)), field("a", number(1))),
		object(field("", number(1)), field("é", number(2)), field("é", number(3))),
		object(field("z", number(1)), field("\n", number(2)), field("a", number(3)), field("\n", number(4))),
	}
	for _, s := range broken {
		all = append(all, text(s), object(field(s, number(1))), object(field("a", number(1)), field(s, api.Value{})))
	}
	for _, kind := range noKinds {
		all = append(all, api.Value{Kind: kind}, api.Value{Kind: kind, Bool: true, Int: 1, Text: "a", List: []api.Value{{}}, Fields: []api.Field{{}}})
	}
	return all
}

// within are values that hold v once, at each kind of place.
func within(v api.Value) []api.Value {
	return []api.Value{
		v, list(v), list(v, number(1)), list(number(1), v), list(list(list(v))),
		object(field("a", v)), object(field("b", number(1)), field("a", v)), object(field("a", text("x")), field("b", v)),
		list(object(field("é", list(v, list())))), object(field("x", object(field("y", v))), field("z", list(number(1), number(2)))),
	}
}

// filled is v with something in all that its kind doesn't use, which could not be told.
func filled(v api.Value) api.Value {
	junk := api.Value{Kind: 9, Bool: true, Int: math.MinInt64, Text: "\xff"}
	if v.Kind != api.Bool {
		v.Bool = true
	}
	if v.Kind != api.Int {
		v.Int = math.MaxInt64
	}
	if v.Kind != api.Text {
		v.Text = "\xed\xa0\x80"
	}
	if v.Kind != api.List {
		v.List = []api.Value{junk, {}}
	}
	if v.Kind != api.Object {
		v.Fields = []api.Field{{Name: "\xff", Value: junk}, {Name: "a"}, {Name: "a"}}
	}
	return v
}

// nest is v within so many lists or objects; the bits of how tell which, from the innermost on.
func nest(v api.Value, deep, how int) api.Value {
	for i := range deep {
		if how>>(i%16)&1 == 0 {
			v = list(v)
		} else {
			v = object(field("a", v))
		}
	}
	return v
}

// times is a list of so many v.
func times(n int, v api.Value) api.Value { return list(slices.Repeat([]api.Value{v}, n)...) }

// brief tells a value in a message, which may be too great to be told whole.
func brief(v api.Value) string {
	if _, err := holds(v); err != nil {
		return "a value that is too great"
	}
	s := fmt.Sprintf("%+q", fmt.Sprint(v))
	return s[:min(len(s), 300)]
}

func isZero(v api.Value) bool { return reflect.DeepEqual(v, api.Value{}) }

// writes holds what all five answer of a value that has a text.
func writes(t *testing.T, v api.Value, want string) {
	t.Helper()
	if s, err := canon.Write(v); err != nil || s != want {
		t.Errorf("Write(%s): %.300q, %v, want %.300q", brief(v), s, err, want)
	}
	form, err := canon.Norm(v)
	if err != nil || !alike(form, expectedForm(v)) {
		t.Errorf("Norm(%s): %s, %v, want %s", brief(v), brief(form), err, brief(expectedForm(v)))
	}
	if again, err := canon.Norm(form); err != nil || !alike(again, form) {
		t.Errorf("Norm of Norm(%s): %s, %v", brief(v), brief(again), err)
	}
	if back, err := json.Parse(want); err != nil || !alike(back, form) {
		t.Errorf("Parse of Write(%s): %s, %v, want %s", brief(v), brief(back), err, brief(form))
	}
	if !canon.Same(v, v) || !canon.Same(v, form) || !canon.Same(form, v) {
		t.Errorf("Same(%s) of itself and its form: false", brief(v))
	}
	if !canon.Is(want) {
		t.Errorf("Is(%.300q): false", want)
	}
	without(t, v, form)
}

// without holds Without of no name against the form.
func without(t *testing.T, v, form api.Value) {
	t.Helper()
	w, err := canon.Without(v)
	if v.Kind != api.Object {
		if err != api.ErrForm || !isZero(w) {
			t.Errorf("Without(%s): %s, %v, want ErrForm", brief(v), brief(w), err)
		}
		return
	}
	if err != nil || !alike(w, form) {
		t.Errorf("Without(%s): %s, %v, want %s", brief(v), brief(w), err, brief(form))
	}
}

// refuses holds what they answer of a value that has none.
func refuses(t *testing.T, v api.Value, code api.Code) {
	t.Helper()
	if s, err := canon.Write(v); err != code || s != "" {
		t.Errorf("Write(%s): %.300q, %v, want %v", brief(v), s, err, code)
	}
	if form, err := canon.Norm(v); err != code || !isZero(form) {
		t.Errorf("Norm(%s): %s, %v, want %v", brief(v), brief(form), err, code)
	}
	for _, other := range []api.Value{v, {}, number(1), list(), text("")} {
		if canon.Same(v, other) || canon.Same(other, v) {
			t.Errorf("Same of %s and %s", brief(v), brief(other))
		}
	}
	if v.Kind != api.Object {
		code = api.ErrForm
	}
	for _, names := range [][]string{nil, {"a"}, {"a", "b", "", "\xff"}} {
		if w, err := canon.Without(v, names...); err != code || !isZero(w) {
			t.Errorf("Without(%s, %q): %s, %v, want %v", brief(v), names, brief(w), err, code)
		}
	}
}

// agrees holds them against the expected answer.
func agrees(t *testing.T, v api.Value) {
	t.Helper()
	want, err := expected(v)
	if err != nil {
		refuses(t, v, err.(api.Code))
		return
	}
	writes(t, v, want)
}

func TestExamples(t *testing.T) {
	writes(t, object(field("b", list(number(1), api.Value{})), field("a", text("é\n"))), `{"a":"é\n","b":[1,null]}`)
	writes(t, text("\x07/"), `"\u0007/"`)
	refuses(t, number(1<<53), api.ErrForm)
	refuses(t, object(field("a", number(1)), field("a", number(2))), api.ErrForm)
	refuses(t, text("\xff"), api.ErrForm)
	refuses(t, api.Value{Kind: 6}, api.ErrForm)
	for s, want := range map[string]bool{`{"a":1}`: true, `{"a": 1}`: false, `{"b":1,"a":2}`: false, `"\u00e9"`: false} {
		if is := canon.Is(s); is != want {
			t.Errorf("Is(%q): %v", s, is)
		}
	}
	one, other := object(field("a", number(1)), field("b", number(2))), object(field("b", number(2)), field("a", number(1)))
	if !canon.Same(one, other) {
		t.Error("Same of two orders of the names: false")
	}
	if w, err := canon.Without(one, "a", "c"); err != nil || !alike(w, object(field("b", number(2)))) {
		t.Errorf("Without: %v, %v", w, err)
	}
}

func TestEachKind(t *testing.T) {
	for want, v := range map[string]api.Value{
		"null": {}, "true": boolean(true), "false": boolean(false),
		"0": number(0), "7": number(7), "-7": number(-7), "10": number(10), "-100": number(-100), "1234567890": number(1234567890),
		`""`: text(""), `"a"`: text("a"), `"null"`: text("null"), `"é€😀"`: text("é€😀"), `"0"`: text("0"),
		"[]": list(), "[[]]": list(list()), "[{}]": list(object()), "[2,1,2]": list(number(2), number(1), number(2)), `[null,true,"a",-1]`: list(api.Value{}, boolean(true), text("a"), number(-1)),
		"{}": object(), `{"":0}`: object(field("", number(0))), `{"a":{"b":{}}}`: object(field("a", object(field("b", object())))),
		`{"a":1,"b":2,"c":3}`:       object(field("c", number(3)), field("a", number(1)), field("b", number(2))),
		`[{"a":[],"b":{}},{"a":1}]`: list(object(field("b", object()), field("a", list())), object(field("a", number(1)))),
	} {
		writes(t, v, want)
		writes(t, list(v), "["+want+"]")
		writes(t, list(v, number(5), v), "["+want+",5,"+want+"]")
		writes(t, object(field("x", v)), `{"x":`+want+"}")
		writes(t, object(field("z", v), field("x", v)), `{"x":`+want+`,"z":`+want+"}")
	}
}

func TestWhatCanBeTold(t *testing.T) {
	for _, v := range told() {
		for _, w := range within(v) {
			agrees(t, w)
		}
	}
}

func TestWhatCantBeTold(t *testing.T) {
	for _, v := range untold() {
		for _, w := range within(v) {
			refuses(t, w, api.ErrForm)
			refuses(t, filled(w), api.ErrForm)
		}
	}
}

func TestNumbers(t *testing.T) {
	for n, want := range map[int64]string{
		greatest: "9007199254740991", -greatest: "-9007199254740991", greatest - 1: "9007199254740990", 0: "0", 1: "1", -1: "-1",
		1e15: "1000000000000000", -1e15: "-1000000000000000", math.MaxInt32: "2147483647", 1 << 32: "4294967296", -1 << 31: "-2147483648",
	} {
		for _, w := range within(number(n)) {
			agrees(t, w)
		}
		writes(t, number(n), want)
	}
	for _, n := range []int64{greatest + 1, -greatest - 1, greatest + 2, 1e16, -1e16, 1 << 60, math.MaxInt64, math.MinInt64, math.MinInt64 + 1} {
		refuses(t, number(n), api.ErrForm)
	}
}

// escapes are the chapter's, by number; of each number below 32 and of some above.
func escapes() []string {
	all := make([]string, 128)
	for i := range 32 {
		all[i] = `\u00` + string("0123456789abcdef"[i/16]) + string("0123456789abcdef"[i%16])
	}
	for i := 32; i < 128; i++ {
		all[i] = string(rune(i))
	}
	all[8], all[9], all[10], all[12], all[13], all[34], all[92] = `\b`, `\t`, `\n`, `\f`, `\r`, `\"`, `\\`
	return all
}

func TestEveryShortCharacter(t *testing.T) {
	for i, e := range escapes() {
		c := string(rune(i))
		writes(t, text(c), `"`+e+`"`)
		writes(t, text("a"+c), `"a`+e+`"`)
		writes(t, text(c+"a"), `"`+e+`a"`)
		writes(t, text("é"+c+c+"😀"+c), `"é`+e+e+"😀"+e+`"`)
		writes(t, object(field(c, text(c))), `{"`+e+`":"`+e+`"}`)
		writes(t, object(field("€"+c+"x"+c, number(1))), `{"€`+e+"x"+e+`":1}`)
	}
	all, want := "", ""
	for i, e := range escapes() {
		all, want = all+string(rune(i)), want+e
	}
	writes(t, text(all), `"`+want+`"`)
	writes(t, object(field(all, api.Value{})), `{"`+want+`":null}`)
}

// TestLongCharacters: those of two, three and four bytes stand as they are, whatever they mean elsewhere.
func TestLongCharacters(t *testing.T) {
	for _, r := range []rune{0x80, 0x85, 0xa0, 0xe9, 0x7ff, 0x800, 0x2028, 0x2029, 0x20ac, 0xd7ff, 0xe000, 0xfeff, 0xfffd, 0xfffe, 0xffff, 0x10000, 0x1f600, 0x10fffe, 0x10ffff} {
		c := string(r)
		writes(t, text(c), `"`+c+`"`)
		writes(t, text("\n"+c+"\""+c+c), `"\n`+c+`\"`+c+c+`"`)
		writes(t, object(field(c, text(c))), `{"`+c+`":"`+c+`"}`)
	}
	for r := rune(0x80); r <= 0x10ffff; r += 0x61 {
		if r < 0xd800 || r > 0xdfff {
			agrees(t, text(string(r)))
		}
	}
	for _, c := range []string{"<", ">", "&", "'", "e\u0301"} {
		writes(t, text(c), `"`+c+`"`)
	}
}

func TestBytesThatAreNoCharacter(t *testing.T) {
	for _, b := range broken {
		for _, s := range []string{b, "a" + b, "é😀" + b, b + b, strings.Repeat("\n", 100) + b, strings.Repeat("a", 70000) + b} {
			refuses(t, text(s), api.ErrForm)
			refuses(t, list(text("a"), text(s)), api.ErrForm)
			refuses(t, object(field(s, api.Value{})), api.ErrForm)
			refuses(t, object(field("a", api.Value{}), field("b", object(field(s, api.Value{}), field("c", list())))), api.ErrForm)
		}
	}
}

func TestOrderOfNames(t *testing.T) {
	rising := []string{"", "\x00", "\x1f", " ", "\"", "/", "10", "9", "A", "\\", "a", "a\x00", "a\n", "a b", "aa", "ab", "aé", "b", "z", "\x7f", "\u0080", "é", "éa", "€", "\ue000", "\ufffd", "\uffff", "😀", "\U0010ffff"}
	var want strings.Builder
	var fields []api.Field
	for i, name := range rising {
		fields = append(fields, field(name, number(int64(i))))
		want.WriteString("," + quoted(name) + ":" + strconv.Itoa(i))
	}
	chance := rand.New(rand.NewSource(1))
	for range 200 {
		writes(t, object(fields...), "{"+want.String()[1:]+"}")
		chance.Shuffle(len(fields), func(i, j int) { fields[i], fields[j] = fields[j], fields[i] })
	}
	slices.SortFunc(fields, func(a, b api.Field) int { return int(b.Value.Int - a.Value.Int) })
	writes(t, object(fields...), "{"+want.String()[1:]+"}")
	for i, a := range rising {
		for j, b := range rising {
			if i != j {
				agrees(t, list(object(field(a, number(1)), field(b, object(field(b, number(2)), field(a, number(3)))))))
			}
		}
	}
}

func TestManyNames(t *testing.T) {
	var fields []api.Field
	for i := range 5000 {
		fields = append(fields, field(strconv.Itoa(i*2741%5000), number(int64(i%10))))
	}
	agrees(t, object(fields...))
	if w, err := canon.Without(object(fields...), "4999", "0"); err != nil || len(w.Fields) != 4998 || w.Fields[0].Name != "1" {
		t.Errorf("Without of many: %d fields, %v", len(w.Fields), err)
	}
	refuses(t, object(append(fields, field("4999", number(0)))...), api.ErrForm)
	refuses(t, object(append(fields, fields[0])...), api.ErrForm)
}

func TestNamesTwice(t *testing.T) {
	for _, name := range someNames() {
		one, other := field(name, number(1)), field(name, number(2))
		refuses(t, object(one, one), api.ErrForm)
		refuses(t, object(one, other), api.ErrForm)
		refuses(t, object(one, field("x", api.Value{}), other), api.ErrForm)
		refuses(t, object(field("x", api.Value{}), one, field("y", api.Value{}), field("w", api.Value{}), other), api.ErrForm)
		refuses(t, list(object(field("x", object(one, field("y", api.Value{}), one)))), api.ErrForm)
		// The same name in several objects is no name twice.
		agrees(t, object(field(name, object(one)), field("xx", object(one)), field("x", list(object(other), object(other)))))
	}
	agrees(t, object(field("a", api.Value{}), field("A", api.Value{}), field("a ", api.Value{}), field("a\x00", api.Value{})))
	agrees(t, object(field("é", api.Value{}), field("e\u0301", api.Value{})))
}

func TestDepth(t *testing.T) {
	for _, how := range []int{0, 0xffff, 0x5555, 0xaaaa, 0x00ff, 0x1234} {
		for _, leaf := range []api.Value{{}, number(1), text("x")} {
			writes(t, nest(leaf, 31, how), textOf(nest(leaf, 31, how)))
			writes(t, nest(leaf, 32, how), textOf(nest(leaf, 32, how)))
			refuses(t, nest(leaf, 33, how), api.ErrForm)
			refuses(t, nest(leaf, 34, how), api.ErrForm)
		}
		for _, empty := range []api.Value{list(), object()} {
			writes(t, nest(empty, 31, how), textOf(nest(empty, 31, how)))
			refuses(t, nest(empty, 32, how), api.ErrForm)
			refuses(t, nest(empty, 33, how), api.ErrForm)
			refuses(t, nest(empty, 2000, how), api.ErrForm)
		}
		// Depth is counted from the outermost on, not in all.
		deep := nest(number(1), 31, how)
		writes(t, list(deep, deep, list(), deep), textOf(list(deep, deep, list(), deep)))
		refuses(t, list(list(), deep, list(deep)), api.ErrForm)
		refuses(t, object(field("a", number(1)), field("b", list()), field("c", list(deep))), api.ErrForm)
	}
	brackets := strings.Repeat("[", 32) + strings.Repeat("]", 32)
	writes(t, nest(list(), 31, 0), brackets)
}

// TestTooGreat: values of so many parts have longer texts than may be, so that one that can't be told shows which error comes.
func TestTooGreat(t *testing.T) {
	none := api.Value{Kind: 6}
	for _, c := range []struct {
		v    api.Value
		want api.Code
	}{
		{times(65535, none), api.ErrForm}, {times(65536, none), api.ErrLong},
		{times(65535, api.Value{}), api.ErrLong}, {times(65536, api.Value{}), api.ErrLong},
		// One list that stands in 255 places of another: 1 + 255 * 257 values, and one more.
		{times(255, times(256, none)), api.ErrForm},
		{list(append(times(255, times(256, none)).List, none)...), api.ErrLong},
		{times(256, times(255, none)), api.ErrLong}, {times(256, times(256, none)), api.ErrLong},
		{list(times(65534, none)), api.ErrForm}, {list(times(65535, none)), api.ErrLong},
		{nest(none, 65535, 0), api.ErrForm}, {nest(none, 65536, 0), api.ErrLong},
		{nest(none, 65535, 0xffff), api.ErrForm}, {nest(none, 65536, 0xffff), api.ErrLong},
		{list(times(32766, none), times(32767, none)), api.ErrForm}, {list(times(32767, none), times(32767, none)), api.ErrLong},
		{list(none, times(65533, none)), api.ErrForm}, {list(times(65533, none), none), api.ErrForm},
		{list(none, times(65534, none)), api.ErrLong}, {list(times(65534, none), none), api.ErrLong},
	} {
		refuses(t, c.v, c.want)
	}
	var fields []api.Field
	for i := range 65536 {
		fields = append(fields, field(strconv.Itoa(i), none))
	}
	refuses(t, object(fields[1:]...), api.ErrForm)
	refuses(t, object(fields...), api.ErrLong)
	refuses(t, object(append(fields[:65535:65535], fields[0])...), api.ErrLong)
	refuses(t, object(field("a", list(none)), field("b", times(65532, none))), api.ErrForm)
	refuses(t, object(field("a", list(none)), field("b", times(65533, none))), api.ErrLong)
}

// TestGrownByItself: lists that stand in one another so often, or in themselves, that no one could go through them.
func TestGrownByItself(t *testing.T) {
	v := list()
	for range 200 {
		v = list(v, v)
	}
	refuses(t, v, api.ErrLong)
	o := object()
	for range 100 {
		o = object(field("a", o), field("b", o), field("a", o))
	}
	refuses(t, o, api.ErrLong)
	loop := make([]api.Value, 3)
	loop[2] = list(loop...)
	loop[0] = list(loop...)
	refuses(t, loop[2], api.ErrLong)
	refuses(t, object(field("\xff", loop[0])), api.ErrLong)
}

// TestWhatMayBeGreat: as many parts as a text has room for.
func TestWhatMayBeGreat(t *testing.T) {
	writes(t, times(32767, number(0)), "["+strings.Repeat("0,", 32766)+"0]")
	refuses(t, times(32768, number(0)), api.ErrLong)
	agrees(t, list(times(32766, number(7))))
	refuses(t, list(times(32767, number(7))), api.ErrLong)
	shared := times(127, number(1)) // 255 bytes
	agrees(t, times(255, shared))
	refuses(t, times(256, shared), api.ErrLong)
}

func TestLongTexts(t *testing.T) {
	for _, c := range []struct {
		unit string
		long int // of what stands for it
	}{{"a", 1}, {"é", 2}, {"€", 3}, {"😀", 4}, {"\n", 2}, {"\"", 2}, {"\\", 2}, {"\x00", 6}, {"\x1f", 6}, {"\x7f", 1}, {"/", 1}} {
		room := 65534
		s := strings.Repeat(c.unit, room/c.long)
		rest := strings.Repeat("a", room%c.long)
		writes(t, text(s+rest), quoted(s+rest))
		if n := len(quoted(s + rest)); n != 65536 {
			t.Fatalf("a text of %d bytes", n)
		}
		refuses(t, text(s+rest+"a"), api.ErrLong)
		refuses(t, text("a"+s+rest), api.ErrLong)
		refuses(t, text(s+rest+c.unit), api.ErrLong)
		refuses(t, list(text(s+rest)), api.ErrLong)
		refuses(t, object(field(s+rest, api.Value{})), api.ErrLong)
	}
	for _, v := range []api.Value{list(), list(number(1), number(-20)), object(), object(field("b", api.Value{}), field("a", boolean(false))), boolean(true), text("x\n")} {
		for _, in := range within(v)[1:] {
			fits(t, in)
		}
	}
}

// fits holds that beside v, in a list and in an object, a text is as long as may be, and no longer.
func fits(t *testing.T, v api.Value) {
	t.Helper()
	room := 65536 - len(textOf(list(v, text(""))))
	writes(t, list(v, text(strings.Repeat("a", room))), textOf(list(v, text(strings.Repeat("a", room)))))
	refuses(t, list(v, text(strings.Repeat("a", room+1))), api.ErrLong)
	refuses(t, list(text(strings.Repeat("a", room+1)), v), api.ErrLong)
	named := func(n int) api.Value { return object(field(strings.Repeat("n", n), v), field("a", v)) }
	room = 65536 - len(textOf(named(0)))
	writes(t, named(room), textOf(named(room)))
	refuses(t, named(room+1), api.ErrLong)
}

func TestFarTooLongTexts(t *testing.T) {
	long := strings.Repeat("\x01", 1<<20)
	refuses(t, times(1000, text(strings.Repeat("é", 1000)+"\x01")), api.ErrLong)
	refuses(t, text(long), api.ErrLong)
	refuses(t, object(field(long, text(long))), api.ErrLong)
	refuses(t, list(text(long), text("\xff")), api.ErrForm)
}

func TestFirstError(t *testing.T) {
	long := strings.Repeat("a", 65537)
	all := untold()
	for i := 0; i < len(all); i += 5 {
		v := all[i]
		// Too long, and it can't be told.
		refuses(t, list(text(long), v), api.ErrForm)
		refuses(t, list(v, text(long)), api.ErrForm)
		refuses(t, object(field(long, number(1)), field("a", v)), api.ErrForm)
		refuses(t, object(field("a", v), field("b", times(60000, number(1)))), api.ErrForm)
		// Too great, and it can't be told.
		refuses(t, list(v, times(65535, number(1))), api.ErrLong)
		refuses(t, object(field("a", v), field("a", times(65535, number(1)))), api.ErrLong)
		refuses(t, object(field("a", times(65535, number(1))), field("\xff", v)), api.ErrLong)
	}
	refuses(t, nest(text(long), 33, 0), api.ErrForm)
	refuses(t, nest(times(65536, number(1)), 33, 0), api.ErrLong)
	refuses(t, object(field(long, number(1)), field(long, number(1))), api.ErrForm)
	refuses(t, text(long+"\xff"), api.ErrForm)
	refuses(t, text("\xff"+long), api.ErrForm)
	// Without asks for an object ahead of all.
	for _, v := range []api.Value{times(65536, number(1)), text(long), number(1 << 53), {Kind: 6}} {
		if w, err := canon.Without(v, "a"); err != api.ErrForm || !isZero(w) {
			t.Errorf("Without of no object: %s, %v", brief(w), err)
		}
	}
}

// TestWhatIsntUsed: what a kind doesn't use is not counted, not asked, not told, and not kept.
func TestWhatIsntUsed(t *testing.T) {
	for _, v := range told() {
		want := textOf(v)
		writes(t, filled(v), want)
		writes(t, list(filled(v), filled(v)), "["+want+","+want+"]")
		writes(t, object(field("b", filled(v)), field("a", filled(v))), `{"a":`+want+`,"b":`+want+"}")
	}
	great := slices.Repeat([]api.Value{number(1)}, 70000)
	deep := []api.Value{nest(number(1), 100, 0)}
	for _, l := range [][]api.Value{great, deep} {
		fields := []api.Field{field("a", list(l...)), field(strings.Repeat("x", 70000), list(l...))}
		for kind := api.Null; kind <= api.Text; kind++ {
			agrees(t, list(api.Value{Kind: kind, List: l, Fields: fields}))
		}
		writes(t, api.Value{Kind: api.List, Fields: fields}, "[]")
		writes(t, api.Value{Kind: api.Object, List: l}, "{}")
		refuses(t, api.Value{Kind: 6, List: l, Fields: fields}, api.ErrForm)
	}
	long := strings.Repeat("a", 70000)
	writes(t, list(api.Value{Text: long}, api.Value{Kind: api.Int, Text: long}), "[null,0]")
	writes(t, api.Value{Kind: api.Object, Bool: true, Int: -1, Text: long}, "{}")
}

func TestSame(t *testing.T) {
	var all []api.Value
	for _, v := range append(told(), untold()...) {
		all = append(all, v, filled(v), list(v), object(field("a", v)), object(field("b", number(1)), field("a", v)), object(field("a", v), field("b", number(1))))
	}
	for _, a := range all {
		one, err := expected(a)
		for _, b := range all {
			other, err2 := expected(b)
			want := err == nil && err2 == nil && one == other
			if canon.Same(a, b) != want {
				t.Errorf("Same(%v, %v): %v", a, b, !want)
			}
			if err == nil && err2 == nil && alike(expectedForm(a), expectedForm(b)) != want {
				t.Errorf("%v, %v: their forms are not as their texts", a, b)
			}
		}
	}
	long := text(strings.Repeat("a", 65535))
	if canon.Same(long, long) || canon.Same(text("1"), number(1)) || canon.Same(list(number(1), number(2)), list(number(2), number(1))) {
		t.Error("Same of what isn't")
	}
}

func TestIs(t *testing.T) {
	for _, s := range []string{
		"null", "true", "false", "0", "-1", "10", "9007199254740991", "-9007199254740991", `""`, `"a/b"`, "\"é€😀\u2028\x7f\"", `"\b\t\n\f\r\"\\"`, `"\u0000\u001f\u000b\u000e"`,
		"[]", "{}", "[1,[],{}]", `{"":1,"a":{"b":2,"c":3},"b":1}`, `{"A":1,"a":2,"é":3,"` + "\uffff" + `":4,"😀":5}`, `{"10":1,"9":2}`,
		strings.Repeat("[", 32) + strings.Repeat("]", 32), `"` + strings.Repeat("a", 65534) + `"`, `{"\"":1,"\\":2}`, `{"\u0001":1,"\t":2}`,
	} {
		if !canon.Is(s) {
			t.Errorf("Is(%.200q): false", s)
		}
	}
	for _, s := range []string{
		// Blanks.
		" 1", "1 ", "1\n", "\t1", "\r1", "[ ]", "[1, 2]", "[1 ,2]", "[ 1]", "[1 ]", "{ }", `{"a": 1}`, `{"a" :1}`, `{ "a":1}`, `{"a":1 }`, `{"a":1, "b":2}`, `{"a":[1, 2]}`,
		// Escapes that need not be, or are written otherwise.
		`"\u0061"`, `"\u00e9"`, `"\/"`, `"\u0008"`, `"\u0009"`, `"\u000a"`, `"\u000A"`, `"\u000c"`, `"\u000d"`, `"\u0022"`, `"\u005c"`, `"\u000B"`, `"\u001F"`, `"\u007f"`, `"\ud83d\ude00"`, `"\uffff"`, `{"\u0061":1}`, `["\/"]`,
		// Names out of order.
		`{"b":1,"a":2}`, `{"a":1,"":2}`, `{"aa":1,"a":2}`, `{"a":1,"A":2}`, `{"é":1,"z":2}`, `{"😀":1,"` + "\uffff" + `":2}`, `[{"b":1,"a":2}]`, `{"a":{"c":1,"b":2}}`, `{"9":1,"10":2}`, `{"a":1,"c":2,"b":3}`, `{"\t":1,"\u0001":2}`, `{"\\":1,"\"":2}`,
		"-0", "[-0]", `{"a":-0}`,
		// What Parse refuses.
		"", " ", "x", "nul", "nulll", "True", "1.0", "1e1", "01", "+1", "--1", "9007199254740992", "-9007199254740992", `"a`, `"\x"`, "\"\xff\"", "\"\n\"", `"\ud83d"`, "[1,]", "[1", "{", `{"a"}`, `{"a":1,}`, `{"a":1,"a":1}`, `{"a":1,"a":2}`, `{a:1}`, "[]]", "1 2", "\xff", "\ufeff1", "'a'",
		strings.Repeat("[", 33) + strings.Repeat("]", 33), `"` + strings.Repeat("a", 65535) + `"`, strings.Repeat(" ", 65537), "[" + strings.Repeat("0,", 32767) + "0]",
	} {
		if canon.Is(s) {
			t.Errorf("Is(%.200q): true", s)
		}
	}
}

func TestIsOfAllShortTexts(t *testing.T) {
	const set = "[]{}:,\"\\ 01-anu\n\xff"
	var all func(s string, most int)
	all = func(s string, most int) {
		v, err := json.Parse(s)
		want := err == nil && textOf(v) == s
		if canon.Is(s) != want {
			t.Errorf("Is(%q): %v", s, !want)
		}
		if most == 0 {
			return
		}
		for i := range len(set) {
			all(s+set[i:i+1], most-1)
		}
	}
	all("", 5)
}

func TestWithout(t *testing.T) {
	inner := object(field("c", number(1)), field("a", number(2)))
	v := object(field("c", list(inner)), field("é", text("x")), field("a", inner), field("", number(3)), field("b", api.Value{}))
	sorted := object(field("a", number(2)), field("c", number(1)))
	whole := []api.Field{field("", number(3)), field("a", sorted), field("b", api.Value{}), field("c", list(sorted)), field("é", text("x"))}
	for _, c := range []struct{ names, left []string }{
		{nil, []string{"", "a", "b", "c", "é"}},
		{[]string{}, []string{"", "a", "b", "c", "é"}},
		{[]string{"a"}, []string{"", "b", "c", "é"}},
		{[]string{""}, []string{"a", "b", "c", "é"}},
		{[]string{"é"}, []string{"", "a", "b", "c"}},
		{[]string{"a", "a"}, []string{"", "b", "c", "é"}},
		{[]string{"c", "a", "c"}, []string{"", "b", "é"}},
		{[]string{"d"}, []string{"", "a", "b", "c", "é"}},
		{[]string{"d", "b", "A", "aa", "\xff", "\xc3"}, []string{"", "a", "c", "é"}},
		{[]string{"é", "c", "b", "a", ""}, nil},
		{[]string{"é", "c", "b", "a", "", "x", "é"}, nil},
	} {
		var want []api.Field
		for _, f := range whole {
			if slices.Contains(c.left, f.Name) {
				want = append(want, f)
			}
		}
		for _, given := range []api.Value{v, filled(v)} {
			w, err := canon.Without(given, c.names...)
			if err != nil || !alike(w, object(want...)) {
				t.Errorf("Without(%v, %q): %v, %v, want %v", given, c.names, w, err, want)
			}
		}
	}
	if w, err := canon.Without(object(), "a"); err != nil || !alike(w, object()) {
		t.Errorf("Without of nothing: %v, %v", w, err)
	}
}

func TestWithoutErrors(t *testing.T) {
	for _, v := range append(told(), untold()...) {
		v.Fields = append(slices.Clone(v.Fields), field("b", number(1)))
		want := error(nil)
		if v.Kind != api.Object {
			want = api.ErrForm
		}
		if _, err := expected(v); err != nil {
			want = err
		}
		if w, err := canon.Without(v, "b"); err != want || err != nil && !isZero(w) {
			t.Errorf("Without(%v): %v, %v, want %v", v, w, err, want)
		}
	}
	// What would be left out is held to the same.
	for _, f := range []api.Field{field("x", number(1<<53)), field("x", api.Value{Kind: 6}), field("x", text("\xff")), field("x", nest(list(), 32, 0)), field("\xff", api.Value{}), field("a", api.Value{})} {
		if w, err := canon.Without(object(field("a", number(1)), f), "x", "\xff", "a"); err != api.ErrForm || !isZero(w) {
			t.Errorf("Without of %v: %v, %v", f, w, err)
		}
	}
	for _, f := range []api.Field{field("x", text(strings.Repeat("a", 65536))), field("x", times(65535, number(1<<53))), field(strings.Repeat("x", 65536), api.Value{})} {
		if w, err := canon.Without(object(f), f.Name); err != api.ErrLong || !isZero(w) {
			t.Errorf("Without of what is long: %s, %v", brief(w), err)
		}
	}
}

func TestValuesByChance(t *testing.T) {
	for _, m := range []maker{{rand.New(rand.NewSource(2)), 0, false}, {rand.New(rand.NewSource(3)), 0, true}, {rand.New(rand.NewSource(4)), 20, false}, {rand.New(rand.NewSource(5)), 20, true}} {
		for _, v := range made(m, 3000) {
			agrees(t, v)
		}
	}
}

// respelt is one of the texts of a value: with blanks, escapes that need not be, and names in any order.
func respelt(v api.Value, chance *rand.Rand) string {
	blanks := func() string { return []string{"", "", " ", "\n", "\t\r", "  \n "}[chance.Intn(6)] }
	var in []string
	switch v.Kind {
	case api.Text:
		return blanks() + respeltText(v.Text, chance) + blanks()
	case api.List:
		for _, e := range v.List {
			in = append(in, respelt(e, chance))
		}
		return blanks() + "[" + blanks() + strings.Join(in, ",") + "]" + blanks()
	case api.Object:
		for _, i := range chance.Perm(len(v.Fields)) {
			in = append(in, blanks()+respeltText(v.Fields[i].Name, chance)+blanks()+":"+respelt(v.Fields[i].Value, chance))
		}
		return blanks() + "{" + blanks() + strings.Join(in, ",") + "}" + blanks()
	case api.Int:
		if v.Int == 0 && chance.Intn(2) == 0 {
			return blanks() + "-0" + blanks()
		}
	}
	return blanks() + textOf(v) + blanks()
}

func respeltText(s string, chance *rand.Rand) string {
	var b strings.Builder
	for _, r := range s {
		numbered := `\u` + strconv.FormatInt(0x10000+int64(r), 16)[1:]
		switch n := chance.Intn(3); {
		case n == 0 && r < 0x10000:
			b.WriteString(numbered)
		case n == 1 && r < 0x10000:
			b.WriteString(`\u` + strings.ToUpper(numbered[2:]))
		case n == 0:
			b.WriteString(`\u` + strconv.FormatInt(0xd800+int64(r-0x10000)>>10, 16) + `\u` + strconv.FormatInt(0xdc00+int64(r-0x10000)&0x3ff, 16))
		case r == '/':
			b.WriteString(`\/`)
		default:
			own := quoted(string(r))
			b.WriteString(own[1 : len(own)-1])
		}
	}
	return `"` + b.String() + `"`
}

func TestWhateverItsText(t *testing.T) {
	chance := rand.New(rand.NewSource(6))
	for _, v := range made(maker{rand.New(rand.NewSource(7)), 0, false}, 1000) {
		want := textOf(v)
		for range 5 {
			s := respelt(v, chance)
			read, err := json.Parse(s)
			if err != nil {
				t.Fatalf("Parse(%q): %v", s, err)
			}
			if got, err := canon.Write(read); err != nil || got != want {
				t.Errorf("Write of Parse(%q): %q, %v, want %q", s, got, err, want)
			}
			if !canon.Same(read, v) || canon.Is(s) != (s == want) {
				t.Errorf("%q: Same %v, Is %v", s, canon.Same(read, v), canon.Is(s))
			}
		}
	}
}

// TestSameJustIfAlike: of all pairs of small values.
func TestSameJustIfAlike(t *testing.T) {
	all := made(maker{rand.New(rand.NewSource(8)), 40, true}, 400)
	for _, a := range all {
		for _, b := range all {
			one, err := canon.Norm(a)
			other, err2 := canon.Norm(b)
			if want := err == nil && err2 == nil && alike(one, other); canon.Same(a, b) != want {
				t.Errorf("Same(%v, %v): %v", a, b, !want)
			}
		}
	}
}

func TestNothingGivenIsChanged(t *testing.T) {
	values := append(told(), untold()...)
	values = append(values, made(maker{rand.New(rand.NewSource(9)), 30, true}, 300)...)
	values = append(values, object(field("c", list(object(field("z", number(1)), field("y", number(2))))), field("a", number(1)), field("b", text("x"))))
	for _, v := range values {
		before := deepCopy(v)
		names := []string{"z", "a", "c", "a"}
		canon.Write(v)
		canon.Norm(v)
		canon.Same(v, v)
		canon.Without(v, names...)
		if !alike(v, before) {
			t.Errorf("%v has become %v", before, v)
		}
		if !slices.Equal(names, []string{"z", "a", "c", "a"}) {
			t.Errorf("the names have become %q", names)
		}
	}
}

// spoil overwrites all that hangs on v, spare room too.
func spoil(v api.Value) {
	junk := api.Value{Kind: 9, Text: "spoilt"}
	for i := range v.List[:cap(v.List)] {
		part := &v.List[:cap(v.List)][i]
		if i < len(v.List) {
			spoil(*part)
		}
		*part = junk
	}
	for i := range v.Fields[:cap(v.Fields)] {
		part := &v.Fields[:cap(v.Fields)][i]
		if i < len(v.Fields) {
			spoil(part.Value)
		}
		*part = field("spoilt", junk)
	}
}

func TestMemoryOfAnswers(t *testing.T) {
	part := list(text("x"), number(1), object(field("d", number(2)), field("c", list(number(3)))))
	fresh := func() api.Value {
		shared := deepCopy(part)
		return object(field("b", shared), field("a", shared), field("e", list(shared, shared)), field("d", object(field("z", shared), field("y", shared))))
	}
	calls := map[string]func(api.Value) (api.Value, error){
		"Norm":                 canon.Norm,
		"Without":              func(v api.Value) (api.Value, error) { return canon.Without(v) },
		"Without of some":      func(v api.Value) (api.Value, error) { return canon.Without(v, "b", "x") },
		"Norm of Norm":         func(v api.Value) (api.Value, error) { w, _ := canon.Norm(v); return canon.Norm(w) },
		"Norm of what is read": func(v api.Value) (api.Value, error) { w, _ := json.Parse(textOf(v)); return canon.Norm(w) },
	}
	for name, call := range calls {
		v := fresh()
		one, err := call(v)
		other, err2 := call(v)
		if err != nil || err2 != nil {
			t.Fatalf("%s: %v, %v", name, err, err2)
		}
		want := deepCopy(other)
		spoil(one)
		if !alike(v, fresh()) || !alike(other, want) {
			t.Errorf("%s: what is done with an answer is seen elsewhere", name)
		}
		spoil(v)
		if !alike(other, want) {
			t.Errorf("%s: what is done with a value is seen in its answer", name)
		}
	}
	// No two lists of one answer are the same memory.
	for name, call := range calls {
		v := fresh()
		one, _ := call(v)
		want := deepCopy(one)
		spoil(one.Fields[0].Value)
		for i := 1; i < len(one.Fields); i++ {
			if !alike(one.Fields[i].Value, want.Fields[i].Value) {
				t.Errorf("%s: its parts share memory", name)
			}
		}
	}
}

func TestMemoryOfTexts(t *testing.T) {
	long := strings.Repeat("text ", 20)
	v := object(field(long, text(long)))
	form, err := canon.Norm(v)
	if err != nil {
		t.Fatal(err)
	}
	left, err := canon.Without(v, "a")
	if err != nil {
		t.Fatal(err)
	}
	for _, answer := range []api.Value{form, left} {
		name, value := answer.Fields[0].Name, answer.Fields[0].Value.Text
		if unsafe.StringData(name) == unsafe.StringData(long) || unsafe.StringData(value) == unsafe.StringData(long) {
			t.Error("an answer has its value's memory")
		}
	}
}
