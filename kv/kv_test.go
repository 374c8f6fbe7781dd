package kv_test

import (
	"bytes"
	"fmt"
	"maps"
	"math/rand"
	"slices"
	"strings"
	"testing"

	"covey/api"
	"covey/disk"
	"covey/kv"
)

const room = 1 << 26

func fresh(t *testing.T, room int) *disk.Disk {
	t.Helper()
	d, err := disk.New(room)
	if d == nil || err != nil {
		t.Fatalf("disk.New(%d): %v", room, err)
	}
	return d
}

// answers holds that an error is the very one.
func answers(t *testing.T, what string, err, want error) {
	t.Helper()
	if err != want {
		t.Fatalf("%s: %v; not %v", what, err, want)
	}
}

func opens(t *testing.T, d *disk.Disk) *kv.Store {
	t.Helper()
	s, err := kv.Open(d)
	if s == nil || err != nil {
		t.Fatalf("Open: %v, %v", s, err)
	}
	return s
}

// openFails holds that there is nothing beside an error.
func openFails(t *testing.T, what string, d *disk.Disk, want error) {
	t.Helper()
	if s, err := kv.Open(d); s != nil || err != want {
		t.Fatalf("Open of %s: %v, %v; not %v", what, s, err, want)
	}
}

// tells holds all that a store tells against a model.
func tells(t *testing.T, what string, s *kv.Store, m model) {
	t.Helper()
	if s.Count() != m.count {
		t.Fatalf("%s: Count %d; not %d", what, s.Count(), m.count)
	}
	if l, want := s.Keys(""), m.keys(""); !slices.Equal(l, want) {
		t.Fatalf("%s: Keys %.200q; not %.200q", what, l, want)
	}
	for key, want := range m.values {
		if v, ok := s.Get(key); string(v) != want || !ok {
			t.Fatalf("%s: Get(%.50q): %.50q, %v; not %.50q", what, key, v, ok, want)
		}
	}
}

// puts writes a file by another hand, and lets it last.
func puts(t *testing.T, d *disk.Disk, name string, b []byte) {
	t.Helper()
	answers(t, "the disk's Append", d.Append(name, b), nil)
	answers(t, "the disk's Sync", d.Sync(name), nil)
}

// has holds that a file has these bytes, all of them synced.
func has(t *testing.T, what string, d *disk.Disk, name string, want []byte) {
	t.Helper()
	b, err := d.Read(name)
	if err != nil || !bytes.Equal(b, want) {
		t.Fatalf("%s: the file %s: %.200x, %v; not %.200x", what, name, b, err, want)
	}
	d = d.Clone()
	takePower(t, d)
	d.Power(0)
	if b, err := d.Read(name); err != nil || !bytes.Equal(b, want) {
		t.Fatalf("%s: of the file %s %d bytes of %d are synced, %v", what, name, len(b), len(want), err)
	}
}

// takePower lets it go at once.
func takePower(t *testing.T, d *disk.Disk) {
	t.Helper()
	answers(t, "Cut", d.Cut(0), nil)
	answers(t, "a step at a budget of 0", d.Append("other", nil), api.ErrCut)
}

// look is all that a disk tells, with what is synced of its files.
func look(d *disk.Disk) string {
	s := fmt.Sprintf("%q, used %d, on %v, steps %d", d.Names(), d.Used(), d.On(), d.Steps())
	all, synced := d.Clone(), d.Clone()
	all.Power(1 << 30)
	synced.Cut(0)
	synced.Append("other", nil)
	synced.Power(0)
	for _, name := range d.Names() {
		b, _ := all.Read(name)
		c, _ := synced.Read(name)
		s += fmt.Sprintf("; %q: %x, of which %d are synced", name, b, len(c))
	}
	return s
}

func set(key, value string) api.Write { return api.Write{Key: key, Value: []byte(value)} }
func drop(key string) api.Write       { return api.Write{Key: key, Drop: true} }

func batch(l ...api.Write) []api.Write { return l }

// chance is bytes by chance, the same ones each time.
func chance(r *rand.Rand, n int) []byte {
	b := make([]byte, n)
	r.Read(b)
	return b
}

// chanceBatch is a batch of few keys, so that they meet.
func chanceBatch(r *rand.Rand) []api.Write {
	var l []api.Write
	for range 1 + r.Intn(4) {
		w := api.Write{Key: string("abc"[r.Intn(3)]) + strings.Repeat("k", r.Intn(3)), Value: chance(r, r.Intn(9))}
		w.Drop = r.Intn(3) == 0
		l = append(l, w)
	}
	return l
}

func TestExamples(t *testing.T) {
	d := fresh(t, room)
	s := opens(t, d)
	answers(t, "Apply", s.Apply(batch(set("a", "1"), set("b", "2"))), nil)
	if v, ok := s.Get("a"); string(v) != "1" || !ok {
		t.Errorf("Get: %q, %v", v, ok)
	}
	if l := s.Keys(""); !slices.Equal(l, []string{"a", "b"}) {
		t.Errorf("Keys: %q", l)
	}
	answers(t, "Apply", s.Apply(batch(drop("a"), set("c", "3"))), nil)
	if l := s.Keys(""); !slices.Equal(l, []string{"b", "c"}) {
		t.Errorf("Keys: %q", l)
	}
	answers(t, "Compact", s.Compact(), nil)
	if l := s.Keys("b"); !slices.Equal(l, []string{"b"}) || s.Count() != 2 {
		t.Errorf("Keys: %q, Count: %d", l, s.Count())
	}
	answers(t, "Apply of an empty key", s.Apply(batch(set("", "1"))), api.ErrArg)
	answers(t, "Apply of none", s.Apply(nil), nil)
	if v, ok := s.Get("zz"); v != nil || ok {
		t.Errorf("Get of none: %q, %v", v, ok)
	}
	d = fresh(t, 20)
	s = opens(t, d)
	answers(t, "Apply without room", s.Apply(batch(set("a", "123456789"))), api.ErrFull)
	tells(t, "a store without room", s, model{})
	openFails(t, "nil", nil, api.ErrArg)
}

// P12.2: what a batch is on the disk, and that it lasts when it is answered.
func TestApplyOnDisk(t *testing.T) {
	d := fresh(t, room)
	s := opens(t, d)
	if len(d.Names()) != 0 || d.Steps() != 0 {
		t.Errorf("Open of a new disk: %s", look(d))
	}
	batches := [][]api.Write{
		batch(set("a", "1"), set("b", "2")),
		batch(drop("a"), set("c", "")),
		batch(set("c", "x"), drop("c"), set("c", "y"), set("c", "z"), drop("none")),
		batch(api.Write{Key: "\x00\xff", Value: []byte{0, 255}, Drop: false}),
		batch(api.Write{Key: "b", Value: []byte("isn't looked at"), Drop: true}),
		batch(drop("none")),
		batch(set(strings.Repeat("k", 255), strings.Repeat("v", 300))),
	}
	var log []byte
	var m model
	for i, l := range batches {
		kept := slices.Clone(l)
		answers(t, "Apply", s.Apply(l), nil)
		log = append(log, frame(batchOf(uint64(i+1), kept...))...)
		m = m.with(kept)
		has(t, "Apply", d, "log", log)
		tells(t, "behind Apply", s, m)
		tells(t, "opened anew", opens(t, d), m)
		if d.Steps() != 2*(i+1) || !slices.Equal(d.Names(), []string{"log"}) {
			t.Fatalf("behind %d batches: %s", i+1, look(d))
		}
	}
}

// P12.2: no writes are nothing, whatever stands against a batch otherwise.
func TestApplyNothing(t *testing.T) {
	for _, room := range []int{0, 100} {
		d := fresh(t, room)
		s := opens(t, d)
		before := look(d)
		answers(t, "Apply(nil)", s.Apply(nil), nil)
		answers(t, "Apply of none", s.Apply([]api.Write{}), nil)
		if look(d) != before || s.Count() != 0 {
			t.Errorf("Apply of none: %s; not %s", look(d), before)
		}
		takePower(t, d)
		answers(t, "Apply of none without power", s.Apply(nil), nil)
	}
}

// refuses holds that a batch is refused, and that nothing has changed.
func refuses(t *testing.T, what string, d *disk.Disk, s *kv.Store, l []api.Write, want error, m model) {
	t.Helper()
	before := look(d)
	answers(t, "Apply of "+what, s.Apply(l), want)
	if look(d) != before {
		t.Fatalf("Apply of %s has changed the disk", what)
	}
	tells(t, "behind Apply of "+what, s, m)
}

// P12.2: which keys and values may be, and how many of them.
func TestApplyBounds(t *testing.T) {
	d := fresh(t, room)
	s := opens(t, d)
	answers(t, "Apply", s.Apply(batch(set("a", "1"))), nil)
	m := model{}.with(batch(set("a", "1")))
	longKey, longValue := strings.Repeat("k", 256), strings.Repeat("v", mostValue+1)
	many := slices.Repeat(batch(set("k", "")), mostWrites+1)
	refuses(t, "an empty key", d, s, batch(set("", "")), api.ErrArg, m)
	refuses(t, "an empty key to drop", d, s, batch(drop("")), api.ErrArg, m)
	refuses(t, "a long key", d, s, batch(set(longKey, "")), api.ErrArg, m)
	refuses(t, "a long key to drop", d, s, batch(set("b", ""), drop(longKey)), api.ErrArg, m)
	refuses(t, "a key of 512 bytes", d, s, batch(set(longKey+longKey, "")), api.ErrArg, m)
	refuses(t, "4097 writes", d, s, many, api.ErrArg, m)
	refuses(t, "65537 writes", d, s, slices.Repeat(batch(drop("k")), 65537), api.ErrArg, m)
	refuses(t, "a long value", d, s, batch(set("b", longValue)), api.ErrLong, m)
	refuses(t, "a long value behind others", d, s, batch(set("a", "2"), drop("a"), set("b", longValue)), api.ErrLong, m)
	refuses(t, "a long value and a key that may not be", d, s, batch(set("b", longValue), set("", "")), api.ErrArg, m)
	refuses(t, "a long value and too many writes", d, s, append(batch(set("b", longValue)), many...), api.ErrArg, m)

	l := batch(set(strings.Repeat("k", 255), strings.Repeat("v", mostValue)), set("k", longValue[1:]))
	answers(t, "Apply of the longest", s.Apply(l), nil)
	m = m.with(l)
	tells(t, "the longest", s, m)
	l = batch(api.Write{Key: "a", Value: []byte(longValue), Drop: true})
	answers(t, "Apply of a long value to drop", s.Apply(l), nil)
	m = m.with(l)
	answers(t, "Apply of 4096 writes", s.Apply(many[1:]), nil)
	m = m.with(many[1:])
	tells(t, "behind 4096 writes", s, m)
	tells(t, "opened anew", opens(t, d), m)
}

// P12.2: a record may be just as long as layer 11 takes.
func TestApplyLongRecords(t *testing.T) {
	d := fresh(t, room)
	s := opens(t, d)
	var l []api.Write
	left := mostRecord - 10
	for i := range 7 {
		l = append(l, set(fmt.Sprint(i), strings.Repeat("v", mostValue)))
		left -= 1 + 1 + 1 + 4 + mostValue
	}
	l = append(l, drop("dropped"))
	left -= 1 + 7 + 1
	l = append(l, set("k", strings.Repeat("w", left-7)))
	l[8].Value = append(l[8].Value, 'w')
	refuses(t, "a record that is one byte too long", d, s, l, api.ErrLong, model{})
	l[8].Value = l[8].Value[1:]
	answers(t, "Apply of the longest record", s.Apply(l), nil)
	if b, err := d.Read("log"); len(b) != mostRecord+8 || err != nil {
		t.Errorf("the longest record: %d bytes, %v", len(b), err)
	}
	m := model{}.with(l)
	tells(t, "the longest record", s, m)
	tells(t, "the longest record, opened anew", opens(t, d), m)
	for i := range l {
		l[i] = set(fmt.Sprint(i), strings.Repeat("v", mostValue))
	}
	refuses(t, "a record that is far too long", d, s, l, api.ErrLong, m)
	takePower(t, d)
	refuses(t, "a record that is far too long, without power", d, s, l, api.ErrLong, m)
	refuses(t, "an empty key, without power", d, s, batch(drop("")), api.ErrArg, m)
	refuses(t, "a batch, without power", d, s, batch(drop("k")), api.ErrCut, m)
}

// P12.2: without room nothing has changed; with just as much as there is to write, all is done.
func TestApplyWithoutRoom(t *testing.T) {
	first, second := batch(set("a", "12")), batch(set("b", "345"), drop("a"))
	most := len(frames(batchOf(1, first...), batchOf(2, second...)))
	for n := range most + 2 {
		d := fresh(t, n)
		s := opens(t, d)
		var m model
		for _, l := range [][]api.Write{first, second} {
			number := uint64(m.count + 1)
			if d.Used()+len(frame(batchOf(number, l...))) > n {
				refuses(t, "a batch without room", d, s, l, api.ErrFull, m)
			} else {
				answers(t, "Apply", s.Apply(l), nil)
				m = m.with(l)
			}
			tells(t, fmt.Sprintf("with room for %d bytes", n), s, m)
			tells(t, fmt.Sprintf("with room for %d bytes, opened anew", n), opens(t, d), m)
		}
		if n == most && m.count != 2 {
			t.Errorf("with room for all: %d batches", m.count)
		}
	}
}

// P12.3: keys rise byte by byte, and begin with what is asked.
func TestGetAndKeys(t *testing.T) {
	s := opens(t, fresh(t, room))
	if v, ok := s.Get(""); v != nil || ok || len(s.Keys("")) != 0 || len(s.Keys("a")) != 0 {
		t.Errorf("a new store tells something")
	}
	var l []api.Write
	names := []string{"a", "ab", "abc", "b", "B", "a\x00", "\x00", "\xff", "\xff\xff", "é", "z", "~", "aa/1", "aa/10", "aa/2", "aa0"}
	for i, name := range names {
		l = append(l, set(name, fmt.Sprint(i)))
	}
	l = append(l, set("empty", ""), api.Write{Key: "nil"}, set("gone", "x"), drop("gone"))
	answers(t, "Apply", s.Apply(l), nil)
	m := model{}.with(l)
	for i := range 3 {
		tells(t, fmt.Sprintf("a store, opened %d times more", i), s, m)
		for _, prefix := range append(names, "", "aa/", "gone", "gon", "abcd", "\xff\xff\xff", "\xc3", "none", strings.Repeat("a", 300)) {
			if got, want := s.Keys(prefix), m.keys(prefix); !slices.Equal(got, want) {
				t.Errorf("Keys(%q): %q; not %q", prefix, got, want)
			}
		}
		for _, key := range []string{"", "gone", "c", "A", strings.Repeat("a", 300)} {
			if v, ok := s.Get(key); v != nil || ok {
				t.Errorf("Get(%q): %q, %v", key, v, ok)
			}
		}
		for _, key := range []string{"empty", "nil"} {
			if v, ok := s.Get(key); len(v) != 0 || !ok {
				t.Errorf("Get(%q): %q, %v", key, v, ok)
			}
		}
		if i == 1 {
			answers(t, "Compact", s.Compact(), nil)
		}
	}
}

// R3: what is handed in isn't kept nor changed, what is answered is new memory.
func TestMemory(t *testing.T) {
	d := fresh(t, room)
	s := opens(t, d)
	value := append(make([]byte, 0, 64), "value"...)
	l := []api.Write{{Key: "a", Value: value}, {Key: "b", Value: value[:0]}, {Key: "c", Value: value, Drop: true}}
	answers(t, "Apply", s.Apply(l), nil)
	if string(value) != "value" || !bytes.Equal(value[5:10], make([]byte, 5)) || l[0].Key != "a" || !l[2].Drop {
		t.Errorf("Apply has changed its argument: %v", l)
	}
	for i := range value[:cap(value)] {
		value[:cap(value)][i] = 'x'
	}
	l[0].Key = "other"
	m := model{values: map[string]string{"a": "value", "b": ""}, count: 1}
	for _, s := range []*kv.Store{s, opens(t, d)} {
		tells(t, "behind a change of the argument", s, m)
		for range 2 {
			got, _ := s.Get("a")
			for i := range got[:cap(got)] {
				got[:cap(got)][i] = 'y'
			}
			keys := s.Keys("")
			for i := range keys[:cap(keys)] {
				keys[:cap(keys)][i] = "z"
			}
			tells(t, "behind a change of the answers", s, m)
		}
	}
	answers(t, "Compact", s.Compact(), nil)
	tells(t, "behind Compact", opens(t, d), m)
}

// P12.4, P12.5
func TestCompact(t *testing.T) {
	d := fresh(t, room)
	s := opens(t, d)
	answers(t, "Compact of nothing", s.Compact(), nil)
	has(t, "Compact of nothing", d, "snap", frame(snapOf(0, nil)))
	if !slices.Equal(d.Names(), []string{"snap"}) || d.Steps() != 3 {
		t.Errorf("Compact of nothing: %s", look(d))
	}
	tells(t, "nothing, opened anew", opens(t, d), model{})
	r := rand.New(rand.NewSource(1))
	var m model
	for i := range 30 {
		for range r.Intn(4) {
			l := chanceBatch(r)
			answers(t, "Apply", s.Apply(l), nil)
			m = m.with(l)
		}
		answers(t, "Compact", s.Compact(), nil)
		has(t, "Compact", d, "snap", frame(snapOf(uint64(m.count), m.values)))
		if m.count > 0 {
			has(t, "Compact", d, "log", nil)
		}
		if slices.Contains(d.Names(), "snap.new") {
			t.Fatalf("Compact leaves %q", d.Names())
		}
		tells(t, "behind Compact", s, m)
		if i%3 == 0 {
			s = opens(t, d)
			tells(t, "opened anew", s, m)
		}
	}
	l := batch(set("behind", "the snapshot"))
	answers(t, "Apply", s.Apply(l), nil)
	has(t, "Apply behind Compact", d, "log", frame(batchOf(uint64(m.count+1), l...)))
	tells(t, "opened anew behind both", opens(t, d), m.with(l))
}

// P12.4: the steps of Compact, and what each leaves when the power goes at it.
func TestCompactSteps(t *testing.T) {
	start := fresh(t, room)
	s := opens(t, start)
	answers(t, "Apply", s.Apply(batch(set("a", "1"))), nil)
	answers(t, "Compact", s.Compact(), nil)
	answers(t, "Apply", s.Apply(batch(set("b", "2"))), nil)
	m := model{values: map[string]string{"a": "1", "b": "2"}, count: 2}
	log := frame(batchOf(2, set("b", "2")))
	old, now := frame(snapOf(1, map[string]string{"a": "1"})), frame(snapOf(2, m.values))
	for n := range 6 {
		d := start.Clone()
		s := opens(t, d)
		answers(t, "Cut", d.Cut(n), nil)
		err := s.Compact()
		tells(t, "behind Compact", s, m)
		if n >= 4 {
			answers(t, "Compact", err, nil)
			if n == 4 && !d.On() || d.Steps() != start.Steps()+4 {
				t.Errorf("Compact: %s", look(d))
			}
			continue
		}
		answers(t, fmt.Sprintf("Compact with %d steps", n), err, api.ErrCut)
		d.Power(1 << 20)
		want := map[string][]byte{"log": log, "snap": old, "snap.new": now}
		if n < 2 {
			want["snap.new"] = now[:(1<<20)%(len(now)+1)]
		}
		if n == 3 {
			want = map[string][]byte{"log": log, "snap": now}
		}
		if !slices.Equal(d.Names(), slices.Sorted(maps.Keys(want))) {
			t.Fatalf("Compact with %d steps: %q", n, d.Names())
		}
		for name, b := range want {
			has(t, fmt.Sprintf("Compact with %d steps", n), d, name, b)
		}
		tells(t, "opened anew", opens(t, d), m)
		if slices.Contains(d.Names(), "snap.new") {
			t.Errorf("Open leaves snap.new")
		}
	}
}

// P12.4: without room nothing has changed.
func TestCompactWithoutRoom(t *testing.T) {
	l := batch(set("a", "1"), set("b", "22"))
	m := model{}.with(l)
	log, snap := len(frame(batchOf(1, l...))), len(frame(snapOf(1, m.values)))
	for n := log; n <= log+2*snap; n++ {
		d := fresh(t, n)
		s := opens(t, d)
		answers(t, "Apply", s.Apply(l), nil)
		before := look(d)
		if n < log+snap {
			answers(t, "Compact without room", s.Compact(), api.ErrFull)
			if look(d) != before {
				t.Fatalf("Compact without room: %s; not %s", look(d), before)
			}
			tells(t, "behind Compact without room", s, m)
			tells(t, "opened anew behind Compact without room", opens(t, d), m)
			continue
		}
		answers(t, "Compact", s.Compact(), nil)
		tells(t, "opened anew behind Compact", opens(t, d), m)
		want := error(nil)
		if n < 2*snap {
			want = api.ErrFull
		}
		before = look(d)
		answers(t, "Compact again", s.Compact(), want)
		if want != nil && look(d) != before {
			t.Fatalf("Compact again without room: %s; not %s", look(d), before)
		}
		tells(t, "opened anew behind both", opens(t, d), m)
	}
}

// P12.4: a snapshot may be just as long as layer 11 takes.
func TestCompactLong(t *testing.T) {
	d := fresh(t, room)
	s := opens(t, d)
	left := mostRecord - 12
	var m model
	apply := func(l []api.Write) {
		t.Helper()
		answers(t, "Apply", s.Apply(l), nil)
		m = m.with(l)
	}
	for i := range 7 {
		apply(batch(set(fmt.Sprint(i), strings.Repeat("v", mostValue))))
		left -= 1 + 1 + 4 + mostValue
	}
	apply(batch(set("k", strings.Repeat("w", left-6+1))))
	refused := func(what string) {
		t.Helper()
		before := look(d)
		answers(t, "Compact "+what, s.Compact(), api.ErrLong)
		if look(d) != before {
			t.Fatalf("Compact %s has changed the disk", what)
		}
		tells(t, "behind Compact "+what, s, m)
	}
	refused("of one byte too many")
	tells(t, "opened anew", opens(t, d), m)
	apply(batch(set("k", strings.Repeat("x", left-6))))
	answers(t, "Compact of the longest", s.Compact(), nil)
	has(t, "Compact of the longest", d, "snap", frame(snapOf(uint64(m.count), m.values)))
	tells(t, "opened anew", opens(t, d), m)
	apply(batch(set("l", "")))
	refused("of another key")
	apply(batch(set("more", strings.Repeat("y", mostValue)), set("most", strings.Repeat("y", mostValue))))
	refused("of far too much")
	takePower(t, d)
	answers(t, "Compact without power, of far too much", s.Compact(), api.ErrLong)
	d.Power(0)
	apply(batch(drop("l"), drop("more"), drop("most")))
	answers(t, "Compact", s.Compact(), nil)
	tells(t, "opened anew", opens(t, d), m)
}

// P12.4: what stands under that name by a cut, or by another hand, is no part of a snapshot, and is away behind every answer but ErrCut.
func TestCompactOverLeftovers(t *testing.T) {
	l := batch(set("a", "1"))
	m := model{}.with(l)
	log, snap := len(frame(batchOf(1, l...))), len(frame(snapOf(1, m.values)))
	for _, n := range []int{log + 3, log + snap, log + snap + 3} {
		d := fresh(t, n)
		s := opens(t, d)
		answers(t, "Apply", s.Apply(l), nil)
		puts(t, d, "snap.new", []byte("123"))
		want := error(nil)
		if n < log+snap {
			want = api.ErrFull
		}
		answers(t, "Compact", s.Compact(), want)
		if slices.Contains(d.Names(), "snap.new") {
			t.Errorf("Compact leaves %q", d.Names())
		}
		tells(t, "behind Compact", s, m)
		tells(t, "opened anew", opens(t, d), m)
	}
	d := fresh(t, room)
	s := opens(t, d)
	for i := range 9 {
		answers(t, "Apply", s.Apply(batch(set(fmt.Sprint(i), strings.Repeat("v", mostValue)))), nil)
	}
	puts(t, d, "snap.new", []byte("123"))
	answers(t, "Compact of too much", s.Compact(), api.ErrLong)
	if !slices.Equal(d.Names(), []string{"log"}) {
		t.Errorf("Compact of too much leaves %q", d.Names())
	}
}
