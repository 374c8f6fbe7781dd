package res_test

import (
	"slices"
	"strings"

	"covey/api"
	"covey/auth"
)

// The oracle tells P17.1 anew, as its words stand: events are numbers, chains a matrix, and each next event of a row is sought among all.

type oracle struct {
	events   []api.Event // those that count
	rejected []string
	below    [][]bool // below[i][j]: j lies in the chain of i
	seen     map[string]int
}

// pair is a type and a key.
type pair [2]string

func newOracle(events []api.Event, rejected []string) *oracle {
	o := &oracle{rejected: rejected, seen: map[string]int{}}
	for _, e := range events {
		if e.ID != "" && o.at(e.ID) < 0 {
			o.events = append(o.events, e)
		}
	}
	n := len(o.events)
	for i, e := range o.events {
		o.below = append(o.below, make([]bool, n))
		for _, id := range e.Auth {
			if j := o.at(id); j >= 0 {
				o.below[i][j] = true
			}
		}
	}
	for k := range n {
		for i := range n {
			for j := range n {
				if !o.below[i][k] {
					break
				}
				o.below[i][j] = o.below[i][j] || o.below[k][j]
			}
		}
	}
	return o
}

// at is the number of the event of an ID; -1: there is none.
func (o *oracle) at(id string) int {
	return slices.IndexFunc(o.events, func(e api.Event) bool { return e.ID == id })
}

func (o *oracle) isRejected(i int) bool { return slices.Contains(o.rejected, o.events[i].ID) }

// stands tells whether an event stands for a pair.
func (o *oracle) stands(i int, p pair) bool {
	e := o.events[i]
	return e.HasKey && pair{e.Type, e.Key} == p
}

// entry is the event of a state's entry; -1: it has none.
func (o *oracle) entry(s api.State, p pair) int {
	for _, x := range s {
		if (pair{x.Type, x.Key}) == p && o.at(x.ID) >= 0 {
			return o.at(x.ID)
		}
	}
	return -1
}

// authority is an event's for a pair; -1: it has none.
func (o *oracle) authority(i int, p pair) int {
	for _, id := range o.events[i].Auth {
		if j := o.at(id); j >= 0 && o.stands(j, p) && !o.isRejected(j) {
			return j
		}
	}
	return -1
}

func (o *oracle) isPower(i int) bool {
	e := o.events[i]
	word := ""
	if e.Content.Kind == api.Object {
		for _, f := range slices.Backward(e.Content.Fields) {
			if f.Name == "membership" {
				word = ""
				if f.Value.Kind == api.Text {
					word = f.Value.Text
				}
			}
		}
	}
	isMember := e.Type == memberType && e.HasKey
	return o.stands(i, pair{levelsType, ""}) || o.stands(i, pair{rulesType, ""}) || isMember && e.Sender != e.Key && strings.Contains(" leave ban ", " "+word+" ")
}

// oracleResolve is what Resolve must answer, and how often what was met with.
func oracleResolve(states []api.State, events []api.Event, rejected []string) (api.State, map[string]int) {
	o := newOracle(events, rejected)
	sure, conflicted := o.parts(states)
	var x, rest []int
	for _, i := range conflicted {
		isOfX := o.isPower(i) || slices.ContainsFunc(conflicted, func(k int) bool { return o.isPower(k) && o.below[k][i] })
		if isOfX {
			x = append(x, i)
		} else {
			rest = append(rest, i)
		}
	}
	r := map[pair]int{}
	for p, i := range sure {
		r[p] = i
	}
	o.try(r, o.rowOfX(x), "x")
	o.try(r, o.rowOfRest(rest, r), "rest")
	for p, i := range sure {
		if r[p] != i {
			o.seen["a sure pair's entry is put back"]++
		}
		r[p] = i
	}
	var out api.State
	for p, i := range r {
		out = append(out, api.Entry{Type: p[0], Key: p[1], ID: o.events[i].ID})
	}
	slices.SortFunc(out, func(a, b api.Entry) int {
		if a.Type != b.Type {
			return strings.Compare(a.Type, b.Type)
		}
		return strings.Compare(a.Key, b.Key)
	})
	return out, o.seen
}

// parts are the sure part, and the conflicted set.
func (o *oracle) parts(states []api.State) (map[pair]int, []int) {
	sure := map[pair]int{}
	var conflicted []int
	times := make([]int, len(o.events))
	for _, s := range states {
		in := make([]bool, len(o.events))
		for _, x := range s {
			p := pair{x.Type, x.Key}
			i := o.entry(s, p)
			if i < 0 {
				continue
			}
			isSure := true
			for _, other := range states {
				isSure = isSure && o.entry(other, p) == i
			}
			if isSure {
				sure[p] = i
			} else {
				conflicted = append(conflicted, i)
			}
			for j := range in {
				in[j] = in[j] || o.below[i][j]
			}
		}
		for j := range in {
			if in[j] {
				times[j]++
			}
		}
	}
	for j, n := range times {
		if n > 0 && n < len(states) {
			if !slices.Contains(conflicted, j) {
				o.seen["conflicted by a chain alone"]++
			}
			conflicted = append(conflicted, j)
		}
	}
	slices.Sort(conflicted)
	return sure, slices.Compact(conflicted)
}

// rowOfX is X in its row.
func (o *oracle) rowOfX(x []int) []int {
	level := func(i int) int64 {
		var l []api.Event
		for _, kind := range []string{createType, levelsType} {
			if j := o.authority(i, pair{kind, ""}); j >= 0 {
				l = append(l, o.events[j])
			}
		}
		return auth.Level(o.events[i].Sender, l)
	}
	var row []int
	isLeft := func(i int) bool { return !slices.Contains(row, i) }
	for len(row) < len(x) {
		var due, left []int
		for _, i := range x {
			if !isLeft(i) {
				continue
			}
			left = append(left, i)
			if !slices.ContainsFunc(x, func(j int) bool { return o.below[i][j] && isLeft(j) }) {
				due = append(due, i)
			}
		}
		if len(due) == 0 {
			o.seen["a ring in X"]++
			due = left
		}
		if len(due) < len(left) {
			o.seen["one of X waits"]++
		}
		row = append(row, slices.MinFunc(due, func(i, j int) int {
			switch {
			case level(i) > level(j):
				return -1
			case level(i) < level(j):
				return 1
			}
			return o.age(i, j)
		}))
	}
	return row
}

// age is below 0, if i comes ahead of j by Stamp and ID.
func (o *oracle) age(i, j int) int {
	a, b := o.events[i], o.events[j]
	if a.Stamp < b.Stamp || a.Stamp == b.Stamp && a.ID < b.ID {
		return -1
	}
	return 1
}

// rowOfRest is what isn't of X in its row.
func (o *oracle) rowOfRest(rest []int, r map[pair]int) []int {
	levels := pair{levelsType, ""}
	var line []int
	if i, ok := r[levels]; ok {
		for ; i >= 0 && !slices.Contains(line, i); i = o.authority(i, levels) {
			line = append(line, i)
		}
	}
	place := func(i int) int {
		for range len(o.events) + 1 {
			if i >= 0 && slices.Contains(line, i) {
				return slices.Index(line, i)
			}
			if i >= 0 {
				i = o.authority(i, levels)
			}
		}
		return 1 << 30
	}
	row := slices.Clone(rest)
	slices.SortFunc(row, func(i, j int) int {
		if i == j {
			return 0
		}
		if place(i) != place(j) {
			return place(j) - place(i)
		}
		return o.age(i, j)
	})
	for k, i := range row {
		if k > 0 && place(i) < place(row[k-1]) && o.age(i, row[k-1]) < 0 {
			o.seen["a place counts for more than a stamp"]++
		}
		if p := place(i); p > 0 && p < 1<<30 {
			o.seen["a place in the line"]++
		}
	}
	return row
}

// try puts the events of a row into a state as far as they are allowed there.
func (o *oracle) try(r map[pair]int, row []int, what string) {
	for _, i := range row {
		e := o.events[i]
		if o.isRejected(i) || !e.HasKey {
			o.seen[what+": not tried"]++
			continue
		}
		var l []api.Event
		for _, p := range auth.Select(e) {
			j, ok := r[pair{p.Type, p.Key}]
			if !ok {
				j = o.authority(i, pair{p.Type, p.Key})
				if j >= 0 {
					o.seen[what+": an authority counts"]++
				}
			}
			if j >= 0 {
				l = append(l, o.events[j])
			}
		}
		if auth.Check(e, l) == 0 {
			o.seen[what+": allowed"]++
			r[pair{e.Type, e.Key}] = i
		} else {
			o.seen[what+": refused"]++
		}
	}
}
