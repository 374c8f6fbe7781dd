package kv

import (
	"bytes"
	"maps"
	"slices"

	"covey/api"
	"covey/wal"
)

const (
	maxKey    = 255
	maxValue  = 1 << 18
	maxWrites = 4096
)

// How many bytes the numbers of records take.
const (
	countBytes  = 8 // a batch's number
	writesBytes = 2 // how many writes a batch has
	keysBytes   = 4 // how many keys a snapshot has
	keyBytes    = 1 // a key's length
	dropBytes   = 1
	valueBytes  = 4 // a value's length
	frameBytes  = 8 // what layer 11 lays ahead of a record
)

// checkBatch is what stands against a batch. A key stands against it ahead of any value.
func checkBatch(l []api.Write) error {
	if len(l) > maxWrites {
		return api.ErrArg
	}
	for _, w := range l {
		if len(w.Key) == 0 || len(w.Key) > maxKey {
			return api.ErrArg
		}
	}
	length := countBytes + writesBytes
	for _, w := range l {
		length += keyBytes + len(w.Key) + dropBytes
		if w.Drop {
			continue
		}
		if len(w.Value) > maxValue {
			return api.ErrLong
		}
		length += valueBytes + len(w.Value)
	}
	if length > wal.MaxRecord {
		return api.ErrLong
	}
	return nil
}

// batchRecord is the record of a batch that may be.
func batchRecord(number uint64, l []api.Write) []byte {
	b := appendNumber(nil, number, countBytes)
	b = appendNumber(b, uint64(len(l)), writesBytes)
	for _, w := range l {
		b = appendKey(b, w.Key)
		if w.Drop {
			b = append(b, 1)
			continue
		}
		b = append(b, 0)
		b = appendValue(b, w.Value)
	}
	return b
}

// snapRecord is the record of all that is kept.
func snapRecord(count uint64, values map[string][]byte) []byte {
	b := appendNumber(nil, count, countBytes)
	b = appendNumber(b, uint64(len(values)), keysBytes)
	for _, key := range slices.Sorted(maps.Keys(values)) {
		b = appendKey(b, key)
		b = appendValue(b, values[key])
	}
	return b
}

// readBatch is the number and the writes of a record, if it is a batch.
func readBatch(record []byte) (uint64, []api.Write, bool) {
	r := reader{rest: record}
	number := r.number(countBytes)
	writes := r.number(writesBytes)
	if writes == 0 || writes > maxWrites {
		return 0, nil, false
	}
	var l []api.Write
	for range writes {
		l = append(l, r.write())
	}
	return number, l, r.whole()
}

// takeSnap takes what a record tells, if it is a snapshot.
func (s *Store) takeSnap(record []byte) bool {
	r := reader{rest: record}
	s.count = r.number(countBytes)
	if s.count > maxCount {
		return false
	}
	last := ""
	for range r.number(keysBytes) {
		key, value := r.key(), r.value()
		// No key is empty, so the first one is above none.
		if r.bad || key <= last {
			return false
		}
		s.values[key] = value
		last = key
	}
	return r.whole()
}

// reader takes pieces off a record: from the first one on that isn't there, or may not be, all are empty.
type reader struct {
	rest []byte
	bad  bool
}

func (r *reader) take(n int) []byte {
	if r.bad || n > len(r.rest) {
		r.bad = true
		return nil
	}
	piece := r.rest[:n]
	r.rest = r.rest[n:]
	return piece
}

func (r *reader) number(size int) uint64 {
	n := uint64(0)
	for i, b := range r.take(size) {
		n |= uint64(b) << (8 * i)
	}
	return n
}

func (r *reader) key() string {
	n := r.number(keyBytes)
	if n == 0 {
		r.bad = true
	}
	return string(r.take(int(n)))
}

func (r *reader) value() []byte {
	n := r.number(valueBytes)
	if n > maxValue {
		r.bad = true
	}
	return bytes.Clone(r.take(int(n)))
}

func (r *reader) write() api.Write {
	w := api.Write{Key: r.key()}
	switch r.number(dropBytes) {
	case 0:
		w.Value = r.value()
	case 1:
		w.Drop = true
	default:
		r.bad = true
	}
	return w
}

// whole tells whether all was there, and nothing is left.
func (r *reader) whole() bool { return !r.bad && len(r.rest) == 0 }

func appendNumber(b []byte, n uint64, size int) []byte {
	for range size {
		b = append(b, byte(n))
		n >>= 8
	}
	return b
}

func appendKey(b []byte, key string) []byte {
	b = appendNumber(b, uint64(len(key)), keyBytes)
	return append(b, key...)
}

func appendValue(b []byte, value []byte) []byte {
	b = appendNumber(b, uint64(len(value)), valueBytes)
	return append(b, value...)
}
