package canon_test

import (
	"errors"
	"fmt"
	"math/rand"
	"slices"
	"strings"
	"unicode/utf8"

	"covey/api"
)

// A nested value stands within so many lists and objects.
type nested struct {
	v     api.Value
	depth int
}

// nestedIn are the values right within one.
func nestedIn(n nested) []nested {
	var in []nested
	if n.v.Kind == api.List {
		for _, e := range n.v.List {
			in = append(in, nested{e, n.depth + 1})
		}
	}
	if n.v.Kind == api.Object {
		for _, f := range n.v.Fields {
			in = append(in, nested{f.Value, n.depth + 1})
		}
	}
	return in
}

// holds are all values that v holds, level by level, instead of one within the other; beyond 65536 there are none.
func holds(v api.Value) ([]nested, error) {
	all := []nested{{v, 0}}
	for i := 0; i < len(all); i++ {
		all = append(all, nestedIn(all[i])...)
		if len(all) > 65536 {
			return nil, api.ErrLong
		}
	}
	return all, nil
}

// formed tells whether a value may be so, what it holds aside.
func formed(n nested) bool {
	switch n.v.Kind {
	case 0, 1:
		return true
	case 2:
		return -9007199254740992 < n.v.Int && n.v.Int < 9007199254740992
	case 3:
		return utf8.ValidString(n.v.Text)
	case 4:
		return n.depth < 32
	case 5:
		names := map[string]bool{}
		for _, f := range n.v.Fields {
			if !utf8.ValidString(f.Name) {
				return false
			}
			names[f.Name] = true
		}
		return n.depth < 32 && len(names) == len(n.v.Fields)
	}
	return false
}

// expected is what Write is to answer, written from the chapter in another make than the program's.
func expected(v api.Value) (string, error) {
	all, err := holds(v)
	if err != nil {
		return "", err
	}
	for _, n := range all {
		if !formed(n) {
			return "", api.ErrForm
		}
	}
	s := textOf(v)
	if len(s) > 65536 {
		return "", api.ErrLong
	}
	return s, nil
}

func textOf(v api.Value) string {
	var in []string
	switch v.Kind {
	case 0:
		return "null"
	case 1:
		return fmt.Sprint(v.Bool)
	case 2:
		return fmt.Sprint(v.Int)
	case 3:
		return quoted(v.Text)
	case 4:
		for _, e := range v.List {
			in = append(in, textOf(e))
		}
		return "[" + strings.Join(in, ",") + "]"
	}
	for _, f := range inOrder(v.Fields) {
		in = append(in, quoted(f.Name)+":"+textOf(f.Value))
	}
	return "{" + strings.Join(in, ",") + "}"
}

// inOrder are fields by rising name: by the numbers of its characters.
func inOrder(fields []api.Field) []api.Field {
	fields = slices.Clone(fields)
	slices.SortStableFunc(fields, func(a, b api.Field) int { return slices.Compare([]rune(a.Name), []rune(b.Name)) })
	return fields
}

func quoted(s string) string {
	short := map[rune]string{'"': `\"`, '\\': `\\`, 8: `\b`, 9: `\t`, 10: `\n`, 12: `\f`, 13: `\r`}
	var b strings.Builder
	for _, r := range s {
		switch e := short[r]; {
		case e != "":
			b.WriteString(e)
		case r < 32:
			fmt.Fprintf(&b, "\\u%04x", r)
		default:
			b.WriteRune(r)
		}
	}
	return `"` + b.String() + `"`
}

// expectedForm is the one form of a value that can be told.
func expectedForm(v api.Value) api.Value {
	switch v.Kind {
	case 1:
		return boolean(v.Bool)
	case 2:
		return number(v.Int)
	case 3:
		return text(v.Text)
	case 4:
		var l []api.Value
		for _, e := range v.List {
			l = append(l, expectedForm(e))
		}
		return list(l...)
	case 5:
		var fields []api.Field
		for _, f := range inOrder(v.Fields) {
			fields = append(fields, field(f.Name, expectedForm(f.Value)))
		}
		return object(fields...)
	}
	return api.Value{}
}

// alike holds two values against each other, whole; an empty list is the same as none.
func alike(a, b api.Value) bool {
	return a.Kind == b.Kind && a.Bool == b.Bool && a.Int == b.Int && a.Text == b.Text &&
		slices.EqualFunc(a.List, b.List, alike) &&
		slices.EqualFunc(a.Fields, b.Fields, func(x, y api.Field) bool { return x.Name == y.Name && alike(x.Value, y.Value) })
}

// deepCopy is the same value, whole, in other memory.
func deepCopy(v api.Value) api.Value {
	v.Text = strings.Clone(v.Text)
	v.List = slices.Clone(v.List)
	for i := range v.List {
		v.List[i] = deepCopy(v.List[i])
	}
	v.Fields = slices.Clone(v.Fields)
	for i := range v.Fields {
		v.Fields[i] = field(strings.Clone(v.Fields[i].Name), deepCopy(v.Fields[i].Value))
	}
	return v
}

// A maker makes values by chance, the same ones in each run; a few of them can't be told.
type maker struct {
	*rand.Rand
	amiss int // one of so many values is amiss; 0: none
	spare bool
}

func (m maker) value(depth int) api.Value {
	var v api.Value
	if m.amiss > 0 && m.Intn(m.amiss) == 0 {
		v = untold()[m.Intn(len(untold()))]
	} else if kind := m.Intn(8); depth > 0 && kind < 4 {
		v = m.composed(kind, depth)
	} else {
		v = told()[m.Intn(len(told()))]
	}
	if m.spare && m.Intn(3) == 0 {
		return filled(v)
	}
	return v
}

// composed is a list or an object, whose names come in any order.
func (m maker) composed(kind, depth int) api.Value {
	names := someNames()
	m.Shuffle(len(names), func(i, j int) { names[i], names[j] = names[j], names[i] })
	v := api.Value{Kind: api.List + kind%2}
	for i := range m.Intn(6) {
		if v.Kind == api.List {
			v.List = append(v.List, m.value(depth-1))
		} else {
			v.Fields = append(v.Fields, field(names[i], m.value(depth-1)))
		}
	}
	return v
}

// made are so many values of a maker; of those that are too great or too long there are none.
func made(m maker, n int) []api.Value {
	var all []api.Value
	for len(all) < n {
		v := m.value(4)
		if _, err := expected(v); !errors.Is(err, api.ErrLong) {
			all = append(all, v)
		}
	}
	return all
}
