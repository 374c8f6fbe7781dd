package kv_test

import (
	"bytes"
	"encoding/binary"
	"hash/crc32"
	"io"
	"maps"
	"slices"
	"strings"

	"covey/api"
)

// The oracle lays out files by the library's numbers and checks; it shares nothing with the program.

const (
	mostKey    = 255
	mostValue  = 262144
	mostWrites = 4096
	mostRecord = 2097152
)

func little(parts ...any) []byte {
	var b bytes.Buffer
	for _, p := range parts {
		if s, ok := p.(string); ok {
			b.WriteString(s)
		} else if err := binary.Write(&b, binary.LittleEndian, p); err != nil {
			panic(err)
		}
	}
	return b.Bytes()
}

func frame(record []byte) []byte {
	length := little(uint32(len(record)))
	sum := crc32.Update(crc32.ChecksumIEEE(length), crc32.IEEETable, record)
	return slices.Concat(length, little(sum), record)
}

func frames(records ...[]byte) []byte {
	var b []byte
	for _, r := range records {
		b = append(b, frame(r)...)
	}
	return b
}

// batchOf is the record of a batch.
func batchOf(number uint64, l ...api.Write) []byte {
	b := little(number, uint16(len(l)))
	for _, w := range l {
		b = append(b, little(uint8(len(w.Key)), w.Key, w.Drop)...)
		if !w.Drop {
			b = append(b, little(uint32(len(w.Value)), w.Value)...)
		}
	}
	return b
}

// snapOf is the record of a snapshot.
func snapOf(number uint64, m map[string]string) []byte {
	b := little(number, uint32(len(m)))
	for _, key := range slices.Sorted(maps.Keys(m)) {
		b = append(b, little(uint8(len(key)), key, uint32(len(m[key])), m[key])...)
	}
	return b
}

// model is what a store is to tell.
type model struct {
	values map[string]string
	count  int64
}

func (m model) clone() model { return model{maps.Clone(m.values), m.count} }

// with is the model behind a batch.
func (m model) with(l []api.Write) model {
	m = m.clone()
	if m.values == nil {
		m.values = map[string]string{}
	}
	for _, w := range l {
		if w.Drop {
			delete(m.values, w.Key)
		} else {
			m.values[w.Key] = string(w.Value)
		}
	}
	m.count++
	return m
}

func (m model) keys(prefix string) []string {
	var l []string
	for _, key := range slices.Sorted(maps.Keys(m.values)) {
		if strings.HasPrefix(key, prefix) {
			l = append(l, key)
		}
	}
	return l
}

// scanned is the records of whole frames, and how many bytes they take.
func scanned(b []byte) (records [][]byte, taken int) {
	for len(b)-taken >= 8 {
		n := int(binary.LittleEndian.Uint32(b[taken:]))
		if n > mostRecord || n > len(b)-taken-8 {
			break
		}
		record := b[taken+8 : taken+8+n]
		if !bytes.Equal(frame(record), b[taken:taken+8+n]) {
			break
		}
		records, taken = append(records, record), taken+8+n
	}
	return records, taken
}

// writesOf reads a batch by laying it out again: it is one, if that gives the same bytes.
func writesOf(record []byte) (number uint64, l []api.Write, ok bool) {
	r := bytes.NewReader(record)
	var writes uint16
	get(r, &number)
	get(r, &writes)
	if writes < 1 || writes > mostWrites {
		return 0, nil, false
	}
	for range writes {
		w := api.Write{Key: text(r, short(r), 1, mostKey)}
		if w.Drop = short(r) == 1; !w.Drop {
			w.Value = []byte(text(r, long(r), 0, mostValue))
		}
		l = append(l, w)
	}
	return number, l, bytes.Equal(batchOf(number, l...), record)
}

func pairsOf(record []byte) (m model, ok bool) {
	r := bytes.NewReader(record)
	var number uint64
	get(r, &number)
	m = model{map[string]string{}, int64(number)}
	for n := long(r); n > 0 && r.Len() > 0; n-- {
		key := text(r, short(r), 1, mostKey)
		m.values[key] = text(r, long(r), 0, mostValue)
	}
	return m, number <= 1<<62 && bytes.Equal(snapOf(number, m.values), record)
}

func get(r io.Reader, to any) { binary.Read(r, binary.LittleEndian, to) }

func short(r io.Reader) int {
	var n uint8
	get(r, &n)
	return int(n)
}

func long(r io.Reader) int {
	var n uint32
	get(r, &n)
	return int(n)
}

// text is so many bytes; or, where they aren't there or may not be so many, one that the record doesn't hold.
func text(r *bytes.Reader, n, least, most int) string {
	if n < least || n > most || n > r.Len() {
		r.Seek(0, io.SeekEnd)
		return strings.Repeat("none", 70)
	}
	b := make([]byte, n)
	io.ReadFull(r, b)
	return string(b)
}

// opened is what a store is to tell that is opened of those files; ok is false, if they are broken.
func opened(log, snap []byte, isSnap bool) (m model, ok bool) {
	m = model{map[string]string{}, 0}
	if isSnap {
		records, taken := scanned(snap)
		if len(records) != 1 || taken != len(snap) {
			return model{}, false
		}
		if m, ok = pairsOf(records[0]); !ok {
			return model{}, false
		}
	}
	base := uint64(m.count)
	records, _ := scanned(log)
	for i, record := range records {
		number, l, ok := writesOf(record)
		if !ok {
			return model{}, false
		}
		if i == 0 && (number < 1 || number > base+1) {
			return model{}, false
		}
		if i > 0 {
			ahead, _, _ := writesOf(records[i-1])
			if number != ahead+1 {
				return model{}, false
			}
		}
		if number > base {
			m = m.with(l)
		}
	}
	return m, true
}
