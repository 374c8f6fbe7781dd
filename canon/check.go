package canon

import (
	"iter"

	"covey/api"
	"covey/utf"
)

// refusal is why a value has no canonical text; nil: it has one.
func refusal(v api.Value) error {
	switch {
	case count(v, 0) > api.MaxBody:
		return api.ErrLong
	case !canBeTold(v, 0):
		return api.ErrForm
	case length(v) > api.MaxBody:
		return api.ErrLong
	}
	return nil
}

// parts gives the elements of a list, the values of an object's fields.
func parts(v api.Value) iter.Seq[api.Value] {
	return func(yield func(api.Value) bool) {
		switch v.Kind {
		case api.List:
			for _, element := range v.List {
				if !yield(element) {
					return
				}
			}
		case api.Object:
			for _, f := range v.Fields {
				if !yield(f.Value) {
					return
				}
			}
		}
	}
}

// count is how many values v holds, and those counted ahead of it. It goes no further than one beyond MaxBody: a list may stand in many others, and they in many.
func count(v api.Value, ahead int) int {
	n := ahead + 1
	for part := range parts(v) {
		if n > api.MaxBody {
			break
		}
		n = count(part, n)
	}
	return n
}

// canBeTold tells it of a value that stands within so many lists and objects.
func canBeTold(v api.Value, depth int) bool {
	switch v.Kind {
	case api.Null, api.Bool:
		return true
	case api.Int:
		return v.Int >= -api.MaxInt && v.Int <= api.MaxInt
	case api.Text:
		return isSound(v.Text)
	case api.List:
		return depth < api.MaxDepth && allCanBeTold(v, depth+1)
	case api.Object:
		return depth < api.MaxDepth && namesCanBeTold(v.Fields) && allCanBeTold(v, depth+1)
	}
	return false
}

func allCanBeTold(v api.Value, depth int) bool {
	for part := range parts(v) {
		if !canBeTold(part, depth) {
			return false
		}
	}
	return true
}

func namesCanBeTold(fields []api.Field) bool {
	times := map[string]int{}
	for _, f := range fields {
		times[f.Name]++
		if times[f.Name] > 1 || !isSound(f.Name) {
			return false
		}
	}
	return true
}

func isSound(s string) bool { return utf.Bad(s) == -1 }

// length is how many bytes the text of a value has, whatever the order of its fields; one beyond MaxBody is told as MaxBody + 1.
func length(v api.Value) int {
	long := 0
	tell(v, func(piece string) { long = min(long+len(piece), api.MaxBody+1) })
	return long
}
