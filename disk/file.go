package disk

import (
	"bytes"
	"strings"

	"covey/api"
)

const maxName = 32

// file is bytes, of which the first ones are synced.
type file struct {
	bytes  []byte
	synced int
}

// shorten leaves the first bytes, all of them synced.
func (f *file) shorten(size int) {
	// A copy, so that what is cut off is kept nowhere.
	f.bytes, f.synced = bytes.Clone(f.bytes[:size]), size
}

// tear leaves what is synced, and of the other bytes the first ones.
func (f *file) tear(keep int) {
	loose := len(f.bytes) - f.synced
	f.shorten(f.synced + max(keep, 0)%(loose+1))
}

// find is a file that may be asked for: the power is on, and it is there.
func (d *Disk) find(name string) (*file, error) {
	if !d.on {
		return nil, api.ErrCut
	}
	f, ok := d.files[name]
	if !ok {
		return nil, api.ErrNone
	}
	return f, nil
}

// obtain is the file of a name, a new one if there is none.
func (d *Disk) obtain(name string) *file {
	f, ok := d.files[name]
	if !ok {
		f = &file{}
		d.put(name, f)
	}
	return f
}

func (d *Disk) put(name string, f *file) {
	// A clone, since a name that is handed in may be a piece of a longer text, which isn't to be kept.
	d.files[strings.Clone(name)] = f
}

// step counts a step, or takes the power, if there is no budget left for it.
func (d *Disk) step() error {
	if d.budget == 0 {
		d.on = false
		return api.ErrCut
	}
	if d.budget != unbounded {
		d.budget--
	}
	d.steps++
	return nil
}

func isName(name string) bool {
	if len(name) < 1 || len(name) > maxName {
		return false
	}
	for i := range len(name) {
		if !isNameByte(name[i]) {
			return false
		}
	}
	return true
}

func isNameByte(c byte) bool {
	return c >= 'a' && c <= 'z' || c >= '0' && c <= '9' || c == '.'
}
