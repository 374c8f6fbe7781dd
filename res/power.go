package res

import (
	"cmp"
	"maps"
	"slices"

	"covey/api"
	"covey/auth"
)

// The types and words that the order of events hangs on.
const (
	typeCreate      = "m.room.create"
	typeMember      = "m.room.member"
	typeLevels      = "m.room.power_levels"
	typeRules       = "m.room.join_rules"
	fieldMembership = "membership"
	wordLeave       = "leave"
	wordBan         = "ban"
)

// isPower tells whether an event is a power event.
func isPower(e *api.Event) bool {
	if !e.HasKey {
		return false
	}
	switch e.Type {
	case typeLevels, typeRules:
		return e.Key == ""
	case typeMember:
		word := membership(e.Content)
		return e.Sender != e.Key && (word == wordLeave || word == wordBan)
	}
	return false
}

// membership is the word of that name in a content; empty, if there is none.
func membership(content api.Value) string {
	if content.Kind != api.Object {
		return ""
	}
	at := slices.IndexFunc(content.Fields, func(f api.Field) bool { return f.Name == fieldMembership })
	if at < 0 || content.Fields[at].Value.Kind != api.Text {
		return ""
	}
	return content.Fields[at].Value.Text
}

// withPower is X: the power events of the conflicted set, and what of that lies in their chains.
func (r room) withPower(conflicted set) set {
	power := slices.DeleteFunc(r.listed(conflicted), func(e *api.Event) bool { return !isPower(e) })
	x := r.chain(power)
	maps.DeleteFunc(x, func(id string, _ struct{}) bool { return !conflicted.has(id) })
	for _, e := range power {
		x.add(e.ID)
	}
	return x
}

// queue is X while it is set in its row.
type queue struct {
	room
	left    set                   // those that aren't in the row yet
	settled set                   // events that aren't left, nor any in their chains; once they are so they stay so
	waits   map[string]*api.Event // one that was left in the chain of another one
}

// rowOfPower is X in its row.
func (r room) rowOfPower(x set) []*api.Event {
	q := queue{r, maps.Clone(x), set{}, map[string]*api.Event{}}
	left := r.byLevel(x)
	var row []*api.Event
	for len(left) > 0 {
		// Where events name one another in a ring there may be none whose turn it is; then it is the first one's.
		at := max(0, slices.IndexFunc(left, q.isDue))
		row = append(row, left[at])
		delete(q.left, left[at].ID)
		left = slices.Delete(left, at, at+1)
	}
	return row
}

// byLevel is X by falling level of the sender, then rising Stamp, then ID.
func (r room) byLevel(x set) []*api.Event {
	levels, row := map[string]int64{}, r.listed(x)
	for _, e := range row {
		levels[e.ID] = auth.Level(e.Sender, r.authorising(state{}, e, []api.Entry{{Type: typeCreate}, {Type: typeLevels}}))
	}
	slices.SortFunc(row, func(a, b *api.Event) int {
		return cmp.Or(cmp.Compare(levels[b.ID], levels[a.ID]), byAge(a, b))
	})
	return row
}

// byAge orders events by rising Stamp, then ID.
func byAge(a, b *api.Event) int {
	return cmp.Or(cmp.Compare(a.Stamp, b.Stamp), cmp.Compare(a.ID, b.ID))
}

// isDue tells whether none is left in an event's chain.
func (q queue) isDue(e *api.Event) bool {
	if found := q.waits[e.ID]; found != nil && q.left.has(found.ID) {
		return false
	}
	var found *api.Event
	seen := set{}
	q.walk([]*api.Event{e}, func(next *api.Event) bool {
		if found == nil && q.left.has(next.ID) {
			found = next
		}
		return found == nil && !q.settled.has(next.ID) && seen.add(next.ID)
	})
	if found != nil {
		q.waits[e.ID] = found
		return false
	}
	maps.Copy(q.settled, seen)
	return true
}
