package disk_test

import (
	"regexp"
	"slices"

	"covey/api"
)

// The oracle keeps one list of all bytes, each with its file's name and whether it is synced, in the order in which they came; it shares nothing with the program.

type cell struct {
	file   string
	b      byte
	synced bool
}

type oracle struct {
	room   int
	names  []string // in the order in which they came
	cells  []cell
	dark   bool
	budget []struct{} // one for each step that is left; nil: there is none
	done   int
}

var oracleName = regexp.MustCompile(`\A[a-z0-9.]{1,32}\z`)

func (o *oracle) clone() *oracle {
	other := *o
	other.names, other.cells = slices.Clone(o.names), slices.Clone(o.cells)
	return &other
}

func (o *oracle) has(name string) bool { return slices.Contains(o.names, name) }

// read is a file's bytes, whatever the power, and how many of them are synced.
func (o *oracle) read(name string) (b []byte, synced int) {
	for _, c := range o.cells {
		if c.file == name {
			b = append(b, c.b)
			if c.synced {
				synced++
			}
		}
	}
	return b, synced
}

// drop takes away the bytes that are told, by their file and their place in it.
func (o *oracle) drop(away func(file string, at int) bool) {
	var left []cell
	places := map[string]int{}
	for _, c := range o.cells {
		if !away(c.file, places[c.file]) {
			left = append(left, c)
		}
		places[c.file]++
	}
	o.cells = left
}

func (o *oracle) forget(name string) {
	o.drop(func(file string, at int) bool { return file == name })
	o.names = slices.DeleteFunc(o.names, func(s string) bool { return s == name })
}

func (o *oracle) sync(is func(file string) bool) {
	for i := range o.cells {
		if is(o.cells[i].file) {
			o.cells[i].synced = true
		}
	}
}

// goes takes a step, and tells whether the power stays.
func (o *oracle) goes() bool {
	if o.budget == nil {
		o.done++
		return true
	}
	if len(o.budget) == 0 {
		o.dark = true
		return false
	}
	o.budget = o.budget[1:]
	o.done++
	return true
}

// refused is the error ahead of a step of a file that must be there.
func (o *oracle) refused(name string) error {
	switch {
	case o.dark:
		return api.ErrCut
	case !o.has(name):
		return api.ErrNone
	}
	return nil
}

// step does what a call does to a file that must be there.
func (o *oracle) step(name string, do func()) error {
	if err := o.refused(name); err != nil {
		return err
	}
	if !o.goes() {
		return api.ErrCut
	}
	do()
	return nil
}

func (o *oracle) Append(name string, b []byte) error {
	switch {
	case !oracleName.MatchString(name):
		return api.ErrArg
	case o.dark:
		return api.ErrCut
	case uint64(len(o.cells))+uint64(len(b)) > uint64(o.room):
		return api.ErrFull
	}
	stays := o.goes()
	if !o.has(name) {
		o.names = append(o.names, name)
	}
	for _, x := range b {
		o.cells = append(o.cells, cell{name, x, false})
	}
	if !stays {
		return api.ErrCut
	}
	return nil
}

func (o *oracle) Sync(name string) error {
	return o.step(name, func() { o.sync(func(file string) bool { return file == name }) })
}

func (o *oracle) Truncate(name string, size int) error {
	if err := o.refused(name); err != nil {
		return err
	}
	if b, _ := o.read(name); size < 0 || size > len(b) {
		return api.ErrArg
	}
	return o.step(name, func() {
		o.drop(func(file string, at int) bool { return file == name && at >= size })
		o.sync(func(file string) bool { return file == name })
	})
}

func (o *oracle) Rename(from, to string) error {
	if !oracleName.MatchString(to) {
		return api.ErrArg
	}
	return o.step(from, func() {
		if from == to {
			return
		}
		o.forget(to)
		o.names[slices.Index(o.names, from)] = to
		for i := range o.cells {
			if o.cells[i].file == from {
				o.cells[i].file = to
			}
		}
	})
}

func (o *oracle) Remove(name string) error {
	return o.step(name, func() { o.forget(name) })
}

func (o *oracle) Cut(budget int) error {
	if budget < 0 {
		return api.ErrArg
	}
	if !o.dark {
		o.budget = make([]struct{}, budget)
	}
	return nil
}

func (o *oracle) Power(keep int) {
	if o.dark {
		left := map[string]int{}
		for _, name := range o.names {
			b, synced := o.read(name)
			left[name] = synced
			if keep >= 0 {
				left[name] += keep % (len(b) - synced + 1)
			}
		}
		o.drop(func(file string, at int) bool { return at >= left[file] })
		o.sync(func(string) bool { return true })
	}
	o.dark, o.budget = false, nil
}
