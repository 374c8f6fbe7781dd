package res

import (
	"cmp"
	"slices"

	"covey/api"
)

// rowOfLine is what isn't of X in its row: by falling place, then rising Stamp, then ID.
func (r room) rowOfLine(rest set, now state) []*api.Event {
	places := r.mainLine(now[api.Entry{Type: typeLevels}])
	beyond, row := len(places), r.listed(rest)
	for _, e := range row {
		r.place(e, places, beyond)
	}
	slices.SortFunc(row, func(a, b *api.Event) int {
		return cmp.Or(cmp.Compare(places[b.ID], places[a.ID]), byAge(a, b))
	})
	return row
}

// levelsOf is an event's authority for power_levels.
func (r room) levelsOf(e *api.Event) *api.Event {
	return r.authority(e, api.Entry{Type: typeLevels})
}

// mainLine is the places of the main line's events; it begins with a state's power_levels, if there is one.
func (r room) mainLine(levels *api.Event) map[string]int {
	places := map[string]int{}
	for e := levels; e != nil; e = r.levelsOf(e) {
		if _, twice := places[e.ID]; twice {
			break
		}
		n := len(places)
		places[e.ID] = n
	}
	return places
}

// place finds an event's place. All on the way to the main line have the same one, and are kept so that nobody goes that way again.
func (r room) place(e *api.Event, places map[string]int, beyond int) {
	var way []string
	at := beyond
	for ; e != nil; e = r.levelsOf(e) {
		if known, ok := places[e.ID]; ok {
			at = known
			break
		}
		// Where the way comes back to this one it leads to no main line.
		places[e.ID] = beyond
		way = append(way, e.ID)
	}
	for _, id := range way {
		places[id] = at
	}
}
