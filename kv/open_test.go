package kv_test

import (
	"bytes"
	"fmt"
	"math/rand"
	"slices"
	"strings"
	"testing"

	"covey/api"
	"covey/disk"
	"covey/kv"
)

// files is what lies on a disk; a nil file isn't there.
type files struct{ log, snap, rest []byte }

func (f files) lay(t *testing.T) *disk.Disk {
	t.Helper()
	d := fresh(t, room)
	for name, b := range map[string][]byte{"log": f.log, "snap": f.snap, "snap.new": f.rest} {
		if b != nil {
			puts(t, d, name, b)
		}
	}
	return d
}

// breaks holds that files are broken, that they are left as they are, and that the oracle says so, too.
func breaks(t *testing.T, what string, f files) {
	t.Helper()
	d := f.lay(t)
	before := look(d)
	openFails(t, what, d, api.ErrBroken)
	if look(d) != before {
		t.Fatalf("Open of %s: %.300s; not %.300s", what, look(d), before)
	}
	if _, ok := opened(f.log, f.snap, f.snap != nil); ok {
		t.Fatalf("the oracle opens %s", what)
	}
}

// loads holds that files tell what the oracle says, once opened and twice; and that a batch behind them lasts.
func loads(t *testing.T, what string, f files) model {
	t.Helper()
	m, ok := opened(f.log, f.snap, f.snap != nil)
	if !ok {
		t.Fatalf("the oracle doesn't open %s", what)
	}
	d := f.lay(t)
	tells(t, what, opens(t, d), m)
	once := look(d)
	s := opens(t, d)
	tells(t, what+", opened twice", s, m)
	if look(d) != once {
		t.Fatalf("%s, opened twice: %.300s; not %.300s", what, look(d), once)
	}
	if slices.Contains(d.Names(), "snap.new") {
		t.Fatalf("%s: %q", what, d.Names())
	}
	l := batch(set("more", "of it"))
	answers(t, "Apply behind "+what, s.Apply(l), nil)
	tells(t, what+", and a batch", opens(t, d), m.with(l))
	return m
}

// P12.1: what a log may be.
func TestOpenLog(t *testing.T) {
	one, two, three := batchOf(1, set("a", "1"), set("b", "2")), batchOf(2, drop("a")), batchOf(3, set("c", "3"), drop("none"))
	loads(t, "an empty log", files{log: []byte{}})
	if m := loads(t, "one batch", files{log: frames(one)}); m.count != 1 || m.values["b"] != "2" {
		t.Errorf("one batch: %v", m)
	}
	if m := loads(t, "three batches", files{log: frames(one, two, three)}); m.count != 3 || len(m.values) != 2 {
		t.Errorf("three batches: %v", m)
	}
	whole := frames(one, two, three)
	for n := range len(whole) {
		f := files{log: whole[:n]}
		d := f.lay(t)
		opens(t, d)
		_, kept := scanned(whole[:n])
		has(t, fmt.Sprintf("%d bytes of a log", n), d, "log", whole[:kept])
		loads(t, fmt.Sprintf("%d bytes of a log", n), f)
	}
	for i := len(frames(one)); i < len(frames(one, two)); i++ {
		b := bytes.Clone(whole)
		b[i] ^= 4
		if m := loads(t, "a log with a turned bit", files{log: b}); m.count != 1 {
			t.Errorf("a log whose byte %d isn't right: %d batches", i, m.count)
		}
	}
}

// P12.1: which numbers the batches of a log may have.
func TestOpenNumbers(t *testing.T) {
	numbered := func(numbers ...uint64) []byte {
		b := []byte{}
		for _, n := range numbers {
			b = append(b, frame(batchOf(n, set("k", fmt.Sprint(n)), set(fmt.Sprint(n), "")))...)
		}
		return b
	}
	const high = 1 << 62
	snap := func(n uint64) []byte { return frame(snapOf(n, map[string]string{"k": "snap", "s": ""})) }
	none := uint64(1 << 63) // for no snapshot
	for _, c := range []struct {
		snap    uint64
		numbers []uint64
		count   int64 // -1, if that is broken
	}{
		{none, []uint64{1}, 1}, {none, []uint64{1, 2}, 2}, {none, []uint64{0}, -1}, {none, []uint64{2}, -1},
		{none, []uint64{1, 1}, -1}, {none, []uint64{1, 3}, -1}, {none, []uint64{1, 2, 2}, -1}, {none, []uint64{1, 2, 1}, -1},
		{none, []uint64{1, 0}, -1}, {none, []uint64{1 << 63}, -1}, {none, []uint64{1<<64 - 1}, -1}, {none, []uint64{1<<64 - 1, 0, 1}, -1},
		{none, []uint64{1 + 1<<32}, -1}, {none, []uint64{1 + 1<<56}, -1}, {none, []uint64{1, 2 + 1<<63}, -1},
		{0, nil, 0}, {0, []uint64{1}, 1}, {0, []uint64{0}, -1}, {0, []uint64{2}, -1}, {0, []uint64{1, 2, 3}, 3},
		{5, nil, 5}, {5, []uint64{6}, 6}, {5, []uint64{7}, -1}, {5, []uint64{5}, 5}, {5, []uint64{5, 6}, 6},
		{5, []uint64{1, 2, 3, 4, 5, 6, 7}, 7}, {5, []uint64{4, 5, 6}, 6}, {5, []uint64{3}, 5}, {5, []uint64{1, 2}, 5},
		{5, []uint64{3, 6}, -1}, {5, []uint64{4, 6}, -1}, {5, []uint64{5, 7}, -1}, {5, []uint64{6, 6}, -1}, {5, []uint64{5, 4}, -1},
		{5, []uint64{0}, -1}, {5, []uint64{0, 1}, -1}, {5, []uint64{8}, -1}, {5, []uint64{6, 7, 8, 10}, -1}, {5, []uint64{1, 1}, -1},
		{high, nil, high}, {high, []uint64{high + 1, high + 2}, high + 2}, {high, []uint64{high + 2}, -1}, {high, []uint64{1}, high},
		{high - 1, []uint64{high - 1, high}, high}, {high + 1, nil, -1}, {high + 1, []uint64{high + 2}, -1},
		{1<<63 - 1, nil, -1}, {1<<63 + 5, nil, -1}, {1<<64 - 1, nil, -1}, {1<<64 - 1, []uint64{1}, -1},
	} {
		f := files{log: numbered(c.numbers...)}
		if c.snap != none {
			f.snap = snap(c.snap)
		}
		what := fmt.Sprintf("a snapshot of %d, batches of %d", c.snap, c.numbers)
		if c.count < 0 {
			breaks(t, what, f)
			continue
		}
		if m := loads(t, what, f); m.count != c.count {
			t.Errorf("%s: %d", what, m.count)
		}
	}
}

// P12.1: batches that the snapshot has are not done again; the others are done behind it.
func TestOpenBehindSnap(t *testing.T) {
	snap := frame(snapOf(2, map[string]string{"a": "new", "b": "new"}))
	log := frames(batchOf(1, set("a", "old")), batchOf(2, drop("b"), set("c", "old")), batchOf(3, set("b", "3")))
	m := loads(t, "a log that begins ahead of the snapshot", files{log: log, snap: snap})
	if m.count != 3 || m.values["a"] != "new" || m.values["b"] != "3" || len(m.values) != 2 {
		t.Errorf("a log that begins ahead of the snapshot: %v", m)
	}
	// A batch that is not done again is to be one all the same.
	breaks(t, "a batch that isn't one, ahead of the snapshot", files{log: frames(batchOf(1), batchOf(2, drop("b"))), snap: snap})
}

// P12.1: records of a log that are no batches.
func TestOpenNoBatches(t *testing.T) {
	good := batchOf(1, set("a", "1"))
	other := batchOf(2, set("key", "value"), drop("a"))
	loads(t, "two batches", files{log: frames(good, other)})
	for n := range len(other) {
		breaks(t, fmt.Sprintf("%d bytes of a batch", n), files{log: frames(good, other[:n])})
	}
	breaks(t, "a batch and a byte", files{log: frames(good, append(bytes.Clone(other), 0))})
	breaks(t, "a batch of no writes", files{log: frames(good, batchOf(2))})
	breaks(t, "no bytes", files{log: frames(good, nil)})
	breaks(t, "no bytes first", files{log: frames(nil)})
	head := func(writes uint16) []byte { return little(uint64(2), writes) }
	entry := func(key string, flag uint8, rest ...any) []byte {
		return little(append([]any{uint8(len(key)), key, flag}, rest...)...)
	}
	cases := map[string][]byte{
		"an empty key":                 append(head(1), entry("", 0, uint32(0))...),
		"an empty key to drop":         append(head(1), entry("", 1)...),
		"a flag of 2":                  append(head(1), entry("k", 2)...),
		"a flag of 2, and a value":     append(head(1), entry("k", 2, uint32(1), "v")...),
		"a flag of 255":                append(head(1), entry("k", 255)...),
		"Drop with a value":            append(head(1), entry("k", 1, uint32(1), "v")...),
		"Drop with an empty value":     append(head(1), entry("k", 1, uint32(0))...),
		"no value":                     append(head(1), entry("k", 0)...),
		"a value one byte short":       append(head(1), entry("k", 0, uint32(2), "v")...),
		"a value one byte long":        append(head(1), entry("k", 0, uint32(0), "v")...),
		"a length with its high first": append(head(1), entry("k", 0, uint32(1<<24), "v")...),
		"a length of all ones":         append(head(1), entry("k", 0, uint32(1<<32-1), "v")...),
		"a length of 2^31":             append(head(1), entry("k", 0, uint32(1<<31), "v")...),
		"two writes of which one":      append(head(2), entry("k", 1)...),
		"one write of which two":       append(head(1), append(entry("k", 1), entry("l", 1)...)...),
		"a value that is too long":     append(head(1), entry("k", 0, uint32(mostValue+1), strings.Repeat("v", mostValue+1))...),
		"4097 writes":                  append(head(4097), bytes.Repeat(entry("k", 1), 4097)...),
		"65535 writes":                 append(head(65535), bytes.Repeat(entry("k", 1), 65535)...),
		"256 writes of which one":      append(head(256), entry("k", 1)...),
	}
	for what, record := range cases {
		breaks(t, what, files{log: frames(good, record)})
		breaks(t, what+" ahead of a batch", files{log: frames(good, record, batchOf(3, drop("k")))})
		// What isn't whole isn't looked at.
		b := frames(good, record)
		loads(t, what+", not whole", files{log: b[:len(b)-1]})
	}
	loads(t, "4096 writes", files{log: frames(good, append(head(4096), bytes.Repeat(entry("k", 1), 4096)...))})
	loads(t, "the longest value", files{log: frames(good, append(head(1), entry("k", 0, uint32(mostValue), strings.Repeat("v", mostValue))...))})
	loads(t, "the longest key", files{log: frames(good, append(head(1), entry(strings.Repeat("k", 255), 0, uint32(0))...))})
}

// P12.1: files that are no snapshot.
func TestOpenNoSnap(t *testing.T) {
	pairs := map[string]string{"a": "1", "b": "", "\xff": "22"}
	good := snapOf(7, pairs)
	loads(t, "a snapshot", files{snap: frame(good)})
	loads(t, "a snapshot of nothing", files{snap: frame(snapOf(0, nil))})
	loads(t, "a snapshot of batches that left nothing", files{snap: frame(snapOf(9, nil))})
	breaks(t, "an empty file", files{snap: []byte{}})
	breaks(t, "an empty record", files{snap: frame(nil)})
	whole := frame(good)
	for n := range len(whole) {
		breaks(t, fmt.Sprintf("%d bytes of a snapshot", n), files{snap: whole[:n]})
	}
	for n := range 8 * len(whole) {
		b := bytes.Clone(whole)
		b[n/8] ^= 1 << (n % 8)
		breaks(t, fmt.Sprintf("a snapshot, bit %d turned", n), files{snap: b})
	}
	for n := range len(good) {
		breaks(t, fmt.Sprintf("%d bytes of a snapshot's record", n), files{snap: frame(good[:n])})
	}
	breaks(t, "a snapshot and a byte", files{snap: append(bytes.Clone(whole), 0)})
	breaks(t, "a record and a byte", files{snap: frame(append(bytes.Clone(good), 0))})
	breaks(t, "two snapshots", files{snap: frames(good, good)})
	breaks(t, "a batch", files{snap: frame(batchOf(1, set("a", "1")))})
	head := func(keys uint32) []byte { return little(uint64(7), keys) }
	pair := func(key string, value string) []byte {
		return little(uint8(len(key)), key, uint32(len(value)), value)
	}
	join := func(parts ...[]byte) []byte { return slices.Concat(parts...) }
	cases := map[string][]byte{
		"keys that fall":               join(head(2), pair("b", ""), pair("a", "")),
		"the same key twice":           join(head(2), pair("a", "1"), pair("a", "1")),
		"the same key twice, unlike":   join(head(3), pair("a", "1"), pair("b", "1"), pair("b", "2")),
		"a key that falls at the end":  join(head(3), pair("b", ""), pair("c", ""), pair("bz", "")),
		"keys that rise as letters do": join(head(2), pair("a", ""), pair("B", "")),
		"signed bytes":                 join(head(2), pair("\x80", ""), pair("\x7f", "")),
		"a longer key first":           join(head(2), pair("aa", ""), pair("a", "")),
		"an empty key":                 join(head(1), pair("", "1")),
		"an empty key first":           join(head(2), pair("", "1"), pair("a", "1")),
		"one key of which two":         join(head(1), pair("a", ""), pair("b", "")),
		"two keys of which one":        join(head(2), pair("a", "")),
		"many keys of which one":       join(head(1<<32-1), pair("a", "")),
		"no keys of which one":         join(head(0), pair("a", "")),
		"2^24 keys of which one":       join(head(1<<24), pair("a", "")),
		"a value that is too long":     join(head(1), pair("a", strings.Repeat("v", mostValue+1))),
		"a length of all ones":         join(head(1), little(uint8(1), "a", uint32(1<<32-1), "v")),
		"a length of 2^31":             join(head(1), little(uint8(1), "a", uint32(1<<31), "v")),
		"a value one byte short":       join(head(1), little(uint8(1), "a", uint32(2), "v")),
	}
	for what, record := range cases {
		breaks(t, what, files{snap: frame(record)})
		breaks(t, what+", with a log", files{snap: frame(record), log: frame(batchOf(8, drop("a")))})
	}
	loads(t, "keys that rise byte by byte", files{snap: frame(join(head(4), pair("B", ""), pair("a", ""), pair("aa", ""), pair("\x80", "")))})
	loads(t, "the longest value", files{snap: frame(join(head(1), pair("a", strings.Repeat("v", mostValue))))})
	loads(t, "the longest key", files{snap: frame(join(head(1), pair(strings.Repeat("a", 255), "")))})
}

// P12.1: what is under way of a snapshot is taken away, whatever it is, but not what stands under other names.
func TestOpenOverLeftovers(t *testing.T) {
	log, snap := frame(batchOf(8, set("x", "y"))), frame(snapOf(7, map[string]string{"a": "1"}))
	for _, rest := range [][]byte{{}, []byte("no frame"), frame(snapOf(9, nil)), snap} {
		loads(t, "a store with snap.new", files{log: log, snap: snap, rest: rest})
		loads(t, "snap.new alone", files{rest: rest})
		breaks(t, "a broken store with snap.new", files{log: log, rest: rest})
	}
	d := files{log: log, snap: snap}.lay(t)
	puts(t, d, "other", []byte("bytes"))
	before := look(d)
	opens(t, d)
	if look(d) != before {
		t.Errorf("Open of a whole store: %s; not %s", look(d), before)
	}
}

// P12.1: ErrCut, without power, and when it goes.
func TestOpenWithoutPower(t *testing.T) {
	log, snap := frames(batchOf(8, set("x", "y"))), frame(snapOf(7, map[string]string{"a": "1"}))
	torn := append(bytes.Clone(log), "torn"...)
	for what, f := range map[string]files{
		"a new disk":     {},
		"a store":        {log: log, snap: snap},
		"a broken store": {log: log},
		"a broken snap":  {snap: torn},
	} {
		d := f.lay(t)
		takePower(t, d)
		before := look(d)
		openFails(t, what+" without power", d, api.ErrCut)
		if look(d) != before {
			t.Errorf("Open without power has changed %s", what)
		}
	}
	for what, f := range map[string]files{
		"a torn log":               {log: torn, snap: snap},
		"snap.new":                 {log: log, snap: snap, rest: snap},
		"both":                     {log: torn, snap: snap, rest: snap},
		"a log ahead of snap":      {log: frames(batchOf(2, set("x", "z"))), snap: snap},
		"a torn log ahead of snap": {log: append(frames(batchOf(2, set("x", "z"))), "torn"...), snap: snap, rest: torn},
	} {
		m, _ := opened(f.log, f.snap, true)
		d := f.lay(t)
		start := d.Steps()
		opens(t, d)
		steps := d.Steps() - start
		if steps == 0 {
			t.Errorf("Open of %s does nothing", what)
		}
		for n := range steps {
			d := f.lay(t)
			answers(t, "Cut", d.Cut(n), nil)
			openFails(t, what+" at a cut", d, api.ErrCut)
			d.Power(0)
			tells(t, what+" behind a cut", opens(t, d), m)
			loads(t, what, f)
		}
		answers(t, "Cut", d.Cut(0), nil)
		tells(t, what+", opened with no steps left", opens(t, d), m)
	}
}

// P12.1, R1: whatever lies on the disk, Open answers as the oracle does.
func TestOpenByChance(t *testing.T) {
	r := rand.New(rand.NewSource(2))
	whole, broken := 0, 0
	for range 30000 {
		f := chanceFiles(r)
		m, ok := opened(f.log, f.snap, f.snap != nil)
		d := f.lay(t)
		s, err := kv.Open(d)
		if !ok {
			broken++
			if s != nil || err != api.ErrBroken {
				t.Fatalf("Open of %x, %x: %v, %v; not ErrBroken", f.log, f.snap, s, err)
			}
			continue
		}
		whole++
		if s == nil || err != nil {
			t.Fatalf("Open of %x, %x: %v, %v", f.log, f.snap, s, err)
		}
		tells(t, fmt.Sprintf("Open of %x, %x", f.log, f.snap), s, m)
	}
	if whole < 3000 || broken < 3000 {
		t.Errorf("%d are whole, %d broken", whole, broken)
	}
}

// chanceFiles are files of a store, with a byte of a record changed, taken out or laid in here and there.
func chanceFiles(r *rand.Rand) files {
	f := files{log: []byte{}}
	base := uint64(r.Intn(4))
	mar := func(record []byte) []byte {
		if len(record) == 0 || r.Intn(4) > 0 {
			return record
		}
		i := r.Intn(len(record))
		switch r.Intn(3) {
		case 0:
			record[i] ^= byte(1 << r.Intn(8))
		case 1:
			record = slices.Delete(record, i, i+1)
		case 2:
			record = slices.Insert(record, i, byte(r.Intn(3)))
		}
		return record
	}
	if r.Intn(3) > 0 {
		m := model{}
		for range r.Intn(3) {
			m = m.with(chanceBatch(r))
		}
		f.snap = frame(mar(snapOf(base, m.values)))
	} else {
		base = 0
	}
	number := uint64(1 + r.Intn(int(base)+1))
	for range r.Intn(4) {
		f.log = append(f.log, frame(mar(batchOf(number, chanceBatch(r)...)))...)
		number++
	}
	if r.Intn(4) == 0 {
		f.log = f.log[:r.Intn(len(f.log)+1)]
	}
	if r.Intn(9) == 0 {
		f.rest = chance(r, 5)
	}
	return f
}
