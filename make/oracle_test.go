package make_test

import (
	"math/big"
	"slices"

	"covey/api"
	"covey/auth"
	"covey/dag"
	layer13 "covey/names"
)

// The oracle tells P19.2 anew: its fields are put in a map and sorted, the state is a map, and depths are numbers without bounds.

// oracleDraft is what Draft answers.
func oracleDraft(r *dag.Room, e api.Event) (api.Value, error) {
	isStamp := e.Stamp >= 0 && e.Stamp < 1<<53
	if len(e.Type) < 1 || !layer13.User(e.Sender) || e.Content.Kind != 5 || !isStamp {
		return api.Value{}, api.ErrForm
	}
	if r == nil || len(r.Ends()) == 0 {
		return api.Value{}, api.ErrState
	}
	prev := []any{}
	for _, id := range r.Ends() {
		if len(prev) < 20 {
			prev = append(prev, id)
		}
	}
	fields := map[string]any{
		"type": e.Type, "sender": e.Sender, "content": e.Content, "origin_server_ts": int(e.Stamp), "room_id": r.Name(),
		"prev_events": prev, "auth_events": oracleAuth(r, e), "depth": oracleDepth(r, prev),
	}
	if e.HasKey {
		fields["state_key"] = e.Key
	}
	return sorted(fields), nil
}

// oracleAuth are the IDs that the room has for an event's pairs.
func oracleAuth(r *dag.Room, e api.Event) []any {
	now := map[[2]string]string{}
	for _, x := range r.Now() {
		now[[2]string{x.Type, x.Key}] = x.ID
	}
	key := ""
	if e.HasKey {
		key = e.Key
	}
	l := []any{}
	for _, p := range auth.Select(api.Event{Room: r.Name(), Type: e.Type, Sender: e.Sender, HasKey: e.HasKey, Key: key, Content: e.Content, Stamp: e.Stamp}) {
		if id, has := now[[2]string{p.Type, p.Key}]; has {
			l = append(l, id)
		}
	}
	return l
}

// oracleDepth is the depth of what follows some events.
func oracleDepth(r *dag.Room, prev []any) int {
	var depths []*big.Int
	for _, id := range prev {
		e, _ := r.Event(id.(string))
		depth := big.NewInt(e.Depth)
		if depth.Sign() < 0 {
			depth.SetInt64(0)
		}
		depths = append(depths, depth.Add(depth, big.NewInt(1)))
	}
	depths = append(depths, big.NewInt(0))
	greatest := slices.MaxFunc(depths, (*big.Int).Cmp)
	if most := big.NewInt(1<<53 - 1); greatest.Cmp(most) > 0 {
		return int(most.Int64())
	}
	return int(greatest.Int64())
}

// sorted is an object of some fields by rising names.
func sorted(m map[string]any) api.Value {
	var names []string
	for name := range m {
		names = append(names, name)
	}
	slices.Sort(names)
	var l []any
	for _, name := range names {
		l = append(l, name, m[name])
	}
	return fields(l...)
}
