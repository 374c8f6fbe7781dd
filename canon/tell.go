package canon

import (
	"slices"
	"strconv"
	"strings"

	"covey/api"
	"covey/utf"
)

// oneForm is the one form of a value that can be told, in memory of its own.
func oneForm(v api.Value) api.Value {
	form := api.Value{Kind: v.Kind}
	switch v.Kind {
	case api.Bool:
		form.Bool = v.Bool
	case api.Int:
		form.Int = v.Int
	case api.Text:
		form.Text = strings.Clone(v.Text)
	case api.List:
		for _, element := range v.List {
			form.List = append(form.List, oneForm(element))
		}
	case api.Object:
		for _, f := range v.Fields {
			form.Fields = append(form.Fields, api.Field{Name: strings.Clone(f.Name), Value: oneForm(f.Value)})
		}
		slices.SortFunc(form.Fields, func(a, b api.Field) int {
			// There is no error: the names of what can be told are sound.
			order, _ := utf.Cmp(a.Name, b.Name)
			return order
		})
	}
	return form
}

// tell puts the text of a value that can be told, piece by piece, its fields in the order in which they stand.
func tell(v api.Value, put func(piece string)) {
	switch v.Kind {
	case api.Null:
		put("null")
	case api.Bool:
		put(strconv.FormatBool(v.Bool))
	case api.Int:
		put(strconv.FormatInt(v.Int, 10))
	case api.Text:
		tellText(v.Text, put)
	case api.List:
		tellList(v.List, put)
	case api.Object:
		tellFields(v.Fields, put)
	}
}

func tellList(list []api.Value, put func(piece string)) {
	put("[")
	for i, element := range list {
		if i > 0 {
			put(",")
		}
		tell(element, put)
	}
	put("]")
}

func tellFields(fields []api.Field, put func(piece string)) {
	put("{")
	for i, f := range fields {
		if i > 0 {
			put(",")
		}
		tellText(f.Name, put)
		put(":")
		tell(f.Value, put)
	}
	put("}")
}

func tellText(s string, put func(piece string)) {
	put(`"`)
	begin := 0 // of the characters that stand as they are, and aren't put yet
	for i, r := range s {
		if escape := escaped(r); escape != "" {
			put(s[begin:i])
			put(escape)
			// Whatever is escaped has one byte.
			begin = i + 1
		}
	}
	put(s[begin:])
	put(`"`)
}

// escaped is what stands for a character in a text; nothing, if it stands for itself.
func escaped(r rune) string {
	switch r {
	case '"':
		return `\"`
	case '\\':
		return `\\`
	case '\b':
		return `\b`
	case '\t':
		return `\t`
	case '\n':
		return `\n`
	case '\f':
		return `\f`
	case '\r':
		return `\r`
	}
	if r >= ' ' {
		return ""
	}
	// A digit ahead, which is cut off, so that noughts stand ahead of the others.
	return `\u` + strconv.FormatInt(0x10000+int64(r), 16)[1:]
}
