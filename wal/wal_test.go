package wal_test

import (
	"bytes"
	"fmt"
	"hash/crc32"
	"math/rand"
	"slices"
	"strings"
	"testing"

	"covey/api"
	"covey/disk"
	"covey/wal"
)

func fresh(t *testing.T, room int) *disk.Disk {
	t.Helper()
	d, err := disk.New(room)
	if d == nil || err != nil {
		t.Fatalf("disk.New(%d): %v", room, err)
	}
	return d
}

// answers holds that an error is the very one.
func answers(t *testing.T, what string, err, want error) {
	t.Helper()
	if err != want {
		t.Fatalf("%s: %v; not %v", what, err, want)
	}
}

// opens holds that a log is opened, and that it has these records.
func opens(t *testing.T, d *disk.Disk, name string, want ...string) *wal.Log {
	t.Helper()
	l, records, err := wal.Open(d, name)
	if l == nil || err != nil || !slices.Equal(texts(records), want) {
		t.Fatalf("Open(%q): %v, %q, %v; not %q", name, l, records, err, want)
	}
	return l
}

// openFails holds that there is nothing beside an error.
func openFails(t *testing.T, d *disk.Disk, name string, want error) {
	t.Helper()
	if l, records, err := wal.Open(d, name); l != nil || len(records) != 0 || err != want {
		t.Fatalf("Open(%q): %v, %q, %v; not %v", name, l, records, err, want)
	}
}

func appends(t *testing.T, l *wal.Log, records ...string) {
	t.Helper()
	for _, s := range records {
		answers(t, "Append", l.Append([]byte(s)), nil)
	}
}

// has holds that a file has these bytes.
func has(t *testing.T, d *disk.Disk, name string, want []byte) {
	t.Helper()
	if b, err := d.Read(name); err != nil || !bytes.Equal(b, want) {
		t.Fatalf("the file %q: %q, %v; not %q", name, b, err, want)
	}
}

// puts writes a file by another hand, and lets it last.
func puts(t *testing.T, d *disk.Disk, name string, b []byte) {
	t.Helper()
	answers(t, "the disk's Append", d.Append(name, b), nil)
	answers(t, "the disk's Sync", d.Sync(name), nil)
}

// takePower lets it go at once, at a step that changes nothing.
func takePower(t *testing.T, d *disk.Disk, name string) {
	t.Helper()
	answers(t, "Cut", d.Cut(0), nil)
	answers(t, "Sync at a budget of 0", d.Sync(name), api.ErrCut)
	if d.On() {
		t.Fatalf("the power is on")
	}
}

// look is all that a disk tells, with what is synced of its files.
func look(d *disk.Disk) string {
	s := fmt.Sprintf("%q, used %d, on %v, steps %d", d.Names(), d.Used(), d.On(), d.Steps())
	all, synced := d.Clone(), d.Clone()
	all.Power(1 << 30)
	synced.Cut(0)
	for _, name := range d.Names() {
		synced.Sync(name)
	}
	synced.Power(0)
	for _, name := range d.Names() {
		b, _ := all.Read(name)
		c, _ := synced.Read(name)
		s += fmt.Sprintf("; %q: %x, of which %d are synced", name, b, len(c))
	}
	return s
}

func texts(records [][]byte) []string {
	var l []string
	for _, b := range records {
		l = append(l, string(b))
	}
	return l
}

// scans holds a scan against the oracle.
func scans(t *testing.T, b []byte) {
	t.Helper()
	kept := bytes.Clone(b)
	records, taken := wal.Scan(b)
	want, all := oracleScan(kept)
	if !slices.Equal(texts(records), want) || taken != all {
		t.Fatalf("Scan(%.100x): %.100q, %d; not %.100q, %d", b, records, taken, want, all)
	}
	if !bytes.Equal(b, kept) {
		t.Fatalf("Scan has changed its argument")
	}
}

// tells holds a scan against what is told by hand.
func tells(t *testing.T, what string, b []byte, taken int, want ...string) {
	t.Helper()
	records, n := wal.Scan(b)
	if !slices.Equal(texts(records), want) || n != taken {
		t.Fatalf("Scan of %s: %.100q, %d; not %.100q, %d", what, records, n, want, taken)
	}
	scans(t, b)
}

// chance is bytes by chance, the same ones each time.
func chance(r *rand.Rand, n int) []byte {
	b := make([]byte, n)
	r.Read(b)
	return b
}

func TestExamples(t *testing.T) {
	if wal.Check(nil) != 0 || wal.Check([]byte("123456789")) != 0xcbf43926 {
		t.Errorf("Check: %x, %x", wal.Check(nil), wal.Check([]byte("123456789")))
	}
	frame, err := wal.Frame(nil)
	if want := []byte{0, 0, 0, 0, 0x1c, 0xdf, 0x44, 0x21}; !bytes.Equal(frame, want) || err != nil {
		t.Fatalf("Frame: %x, %v", frame, err)
	}
	tells(t, "the frame, and 01", append(bytes.Clone(frame), 1), 8, "")
	frame[7] ^= 1
	tells(t, "the frame, its last byte turned", frame, 0)
	if wal.MaxRecord != bound {
		t.Errorf("MaxRecord: %d", wal.MaxRecord)
	}
}

// P11.1
func TestCheck(t *testing.T) {
	is := func(b []byte) {
		t.Helper()
		kept := bytes.Clone(b)
		if c, want := wal.Check(b), crc32.ChecksumIEEE(kept); c != want {
			t.Fatalf("Check(%.100x): %x; not %x", b, c, want)
		}
		if !bytes.Equal(b, kept) {
			t.Fatalf("Check has changed its argument")
		}
	}
	is(nil)
	is([]byte{})
	for x := range 256 {
		for y := range 256 {
			is([]byte{byte(x), byte(y)})
		}
		is([]byte{byte(x)})
		is(bytes.Repeat([]byte{byte(x)}, 300))
	}
	r := rand.New(rand.NewSource(1))
	for n := range 600 {
		is(chance(r, n))
	}
	is(chance(r, 1<<16))
	is(make([]byte, bound+1))
}

// P11.1
func TestFrame(t *testing.T) {
	is := func(b []byte) {
		t.Helper()
		kept := bytes.Clone(b)
		frame, err := wal.Frame(b)
		if want := oracleFrame(string(kept)); err != nil || !bytes.Equal(frame, want) {
			t.Fatalf("Frame(%.100x): %.100x, %v; not %.100x", b, frame, err, want)
		}
		if !bytes.Equal(b, kept) {
			t.Fatalf("Frame has changed its argument")
		}
	}
	r := rand.New(rand.NewSource(2))
	is(nil)
	for n := range 600 {
		is(chance(r, n))
	}
	for _, n := range []int{1<<16 - 1, 1 << 16, 1<<20 + 0x203, bound - 1, bound} {
		is(chance(r, n))
	}
	for _, n := range []int{bound + 1, bound + 2, 1 << 24} {
		if frame, err := wal.Frame(make([]byte, n)); len(frame) != 0 || err != api.ErrLong {
			t.Fatalf("Frame of %d bytes: %d bytes, %v", n, len(frame), err)
		}
	}
}

// R3: a frame is new memory, spare room too.
func TestFrameIsNewMemory(t *testing.T) {
	b := append(make([]byte, 0, 64), "abc"...)
	frame, err := wal.Frame(b)
	answers(t, "Frame", err, nil)
	other, err := wal.Frame(b)
	answers(t, "Frame", err, nil)
	for i := range frame[:cap(frame)] {
		frame[:cap(frame)][i] = 0xee
	}
	if string(b) != "abc" || !bytes.Equal(other, oracleFrame("abc")) || !bytes.Equal(b[3:8], make([]byte, 5)) {
		t.Errorf("what was written into a frame is seen: %q, %q", b[:8], other)
	}
	b[0] = 'x'
	if !bytes.Equal(other, oracleFrame("abc")) {
		t.Errorf("what was written into the record is seen: %q", other)
	}
}

// P11.2, P11.6: frames tell their records and all their bytes; with bytes less the records that are whole.
func TestScanOfFrames(t *testing.T) {
	tells(t, "nothing", nil, 0)
	tells(t, "nothing", []byte{}, 0)
	lists := [][]string{
		{""}, {"", "", ""}, {"a"}, {"a", "", "bc"}, {"", "longer than eight bytes", "x", ""},
		{strings.Repeat("\x00", 40), strings.Repeat("\xff", 40)},
		{string(oracleFrame("within")), "behind", string(oracleFrames("a", "b"))},
		{strings.Repeat("z", 255), strings.Repeat("y", 256), strings.Repeat("x", 257)},
	}
	for _, list := range lists {
		whole := oracleFrames(list...)
		for n := range len(whole) + 1 {
			count, taken := 0, 0
			for count < len(list) && taken+8+len(list[count]) <= n {
				taken += 8 + len(list[count])
				count++
			}
			tells(t, fmt.Sprintf("%d of %d bytes of %q", n, len(whole), list), whole[:n], taken, list[:count]...)
		}
	}
	r := rand.New(rand.NewSource(3))
	for range 200 {
		var list []string
		for range r.Intn(30) {
			list = append(list, string(chance(r, r.Intn(70))))
		}
		whole := oracleFrames(list...)
		tells(t, "frames", whole, len(whole), list...)
		scans(t, whole[:r.Intn(len(whole)+1)])
	}
	var many []string
	for i := range 1 << 15 {
		many = append(many, fmt.Sprint(i))
	}
	whole := oracleFrames(many...)
	tells(t, "many frames", whole, len(whole), many...)
}

// What Frame made, Scan tells.
func TestScanOfFrame(t *testing.T) {
	r := rand.New(rand.NewSource(4))
	for _, n := range []int{0, 1, 7, 8, 9, 255, 256, 1 << 16, bound - 1, bound} {
		record := chance(r, n)
		frame, err := wal.Frame(record)
		answers(t, "Frame", err, nil)
		tells(t, "a frame", frame, n+8, string(record))
		tells(t, "a frame without its last byte", frame[:n+7], 0)
		tells(t, "two frames", append(frame, frame...), 2*(n+8), string(record), string(record))
	}
}

// P11.2: whichever bit is turned, the scan ends ahead of its frame, whatever stands behind.
func TestScanOfTurnedBits(t *testing.T) {
	list := []string{"one", "", "three and more", "\x00\x00\x00\x00", "last"}
	whole := oracleFrames(list...)
	at := 0
	for i, record := range list {
		for n := range 8 * (8 + len(record)) {
			b := bytes.Clone(whole)
			b[at+n/8] ^= 1 << (n % 8)
			tells(t, fmt.Sprintf("a list, bit %d of frame %d turned", n, i), b, at, list[:i]...)
		}
		at += 8 + len(record)
	}
}

// P11.2: the check is that of the length and the record, not of one of them, nor in another order of bytes.
func TestScanOfOtherChecks(t *testing.T) {
	turned := func(b []byte, from, to int) []byte {
		b = bytes.Clone(b)
		slices.Reverse(b[from:to])
		return b
	}
	frame := oracleFrame("abc")
	sum := crc32.ChecksumIEEE([]byte("abc"))
	alone := append([]byte{3, 0, 0, 0, byte(sum), byte(sum >> 8), byte(sum >> 16), byte(sum >> 24)}, "abc"...)
	tells(t, "a check of the record alone", alone, 0)
	tells(t, "a check with its highest byte first", turned(frame, 4, 8), 0)
	tells(t, "a length with its highest byte first", turned(frame, 0, 4), 0)
	tells(t, "a record backwards", turned(frame, 8, 11), 0)
	tells(t, "a check of nought", append([]byte{3, 0, 0, 0, 0, 0, 0, 0}, "abc"...), 0)
	tells(t, "bytes of nought", make([]byte, 64), 0)
	tells(t, "bytes of all ones", bytes.Repeat([]byte{0xff}, 64), 0)
}

// P11.2: a length above MaxRecord makes no frame, not even with the right check and all its bytes.
func TestScanOfGreatLengths(t *testing.T) {
	ahead := oracleFrame("ahead")
	for _, n := range []uint32{bound + 1, bound + 2, 2*bound - 1, 2 * bound} {
		b := append(bytes.Clone(ahead), rawFrame(n, make([]byte, n))...)
		tells(t, fmt.Sprintf("a record of %d bytes", n), b, len(ahead), "ahead")
	}
	for _, n := range []uint32{bound, bound + 1, 1 << 31, 1<<31 - 1, 1<<31 - 8, 1<<32 - 1, 1<<32 - 8, 1<<32 - 13} {
		for _, record := range []string{"", "some bytes"} {
			b := append(bytes.Clone(ahead), rawFrame(n, []byte(record))...)
			tells(t, fmt.Sprintf("a length of %d", n), b, len(ahead), "ahead")
		}
	}
}

// P11.2: a length that is more than there is, or less, with a check that is right for what there is.
func TestScanOfOtherLengths(t *testing.T) {
	const record = "0123456789"
	for n := range uint32(30) {
		b := rawFrame(n, []byte(record))
		if n == uint32(len(record)) {
			tells(t, "a frame", b, len(b), record)
		} else {
			tells(t, fmt.Sprintf("a length of %d ahead of 10 bytes", n), b, 0)
		}
		b = rawFrame(n, []byte(record)[:min(int(n), len(record))])
		scans(t, append(b, record[min(int(n), len(record)):]...))
	}
}

// Any bytes: what is no frame, what is nearly one.
func TestScanByChance(t *testing.T) {
	r := rand.New(rand.NewSource(5))
	for range 20000 {
		var b []byte
		for range r.Intn(5) {
			piece := oracleFrame(string(chance(r, r.Intn(12))))
			switch r.Intn(6) {
			case 0:
				piece = chance(r, r.Intn(20))
			case 1:
				piece[r.Intn(len(piece))] ^= byte(1 + r.Intn(255))
			case 2:
				piece = piece[:r.Intn(len(piece))]
			case 3:
				piece = rawFrame(uint32(r.Intn(12)), chance(r, r.Intn(12)))
			}
			b = append(b, piece...)
		}
		scans(t, b)
	}
}

// R3: records are new memory, each of its own, spare room too.
func TestRecordsAreNewMemory(t *testing.T) {
	list := []string{"one", "", "three", "4", ""}
	b := oracleFrames(list...)
	records, _ := wal.Scan(b)
	for i := range b {
		b[i] = 0xee
	}
	if !slices.Equal(texts(records), list) {
		t.Fatalf("what was written into the bytes is seen: %q", records)
	}
	for i, record := range records {
		_ = append(record, "++++++++"...)
		if !slices.Equal(texts(records), list) {
			t.Fatalf("what was written behind record %d is seen: %q", i, records)
		}
	}
	for i := range records[0] {
		records[0][i] = 0xee
	}
	if !slices.Equal(texts(records[1:]), list[1:]) || !bytes.Equal(b, bytes.Repeat([]byte{0xee}, len(b))) {
		t.Fatalf("what was written into a record is seen: %q, %q", records, b)
	}

	d := fresh(t, 100)
	puts(t, d, "log", oracleFrames("one", "two"))
	_, records, err := wal.Open(d, "log")
	answers(t, "Open", err, nil)
	for _, record := range records {
		clear(record[:cap(record)])
	}
	opens(t, d, "log", "one", "two")
}

// P11.3: of a file that isn't there a log without records, and it isn't there behind that either.
func TestOpenOfNoFile(t *testing.T) {
	d := fresh(t, 100)
	before := look(d)
	for range 3 {
		opens(t, d, "log")
	}
	if look(d) != before {
		t.Fatalf("Open has made %s of %s", look(d), before)
	}
	answers(t, "the disk's Append", d.Append("log", nil), nil)
	before = look(d)
	opens(t, d, "log")
	if look(d) != before {
		t.Fatalf("Open has made %s of %s", look(d), before)
	}
}

// P11.3: what isn't whole is cut off, by one step; where all is whole there is none.
func TestOpenCutsOff(t *testing.T) {
	tails := [][]byte{
		nil, {0}, []byte("torn"), oracleFrame("last")[:11], make([]byte, 8), rawFrame(bound+1, make([]byte, bound+1)),
		append(append([]byte{1}, oracleFrame("behind")...), oracleFrame("more")...),
	}
	for _, list := range [][]string{nil, {""}, {"one"}, {"one", "", "three"}} {
		for i, tail := range tails {
			d := fresh(t, 1<<22)
			whole := oracleFrames(list...)
			puts(t, d, "log", append(bytes.Clone(whole), tail...))
			puts(t, d, "other", []byte("torn, but not asked for"))
			steps := d.Steps()
			opens(t, d, "log", list...)
			has(t, d, "log", whole)
			has(t, d, "other", []byte("torn, but not asked for"))
			if want := steps + min(len(tail), 1); d.Steps() != want {
				t.Fatalf("Open of %q and tail %d: %d steps; not %d", list, i, d.Steps(), want)
			}
			opens(t, d, "log", list...)
			if d.Steps() != steps+min(len(tail), 1) {
				t.Fatalf("the second Open took steps")
			}
		}
	}
}

// Open is a Truncate where bytes are left over, and no step elsewhere: what isn't synced of whole frames stays so.
func TestOpenIsNoSync(t *testing.T) {
	d := fresh(t, 100)
	puts(t, d, "log", oracleFrame("one"))
	answers(t, "the disk's Append", d.Append("log", oracleFrame("two")), nil)
	before := look(d)
	opens(t, d, "log", "one", "two")
	if look(d) != before {
		t.Fatalf("Open has made %s of %s", look(d), before)
	}
}

// P11.3: names are the disk's.
func TestOpenOfNames(t *testing.T) {
	is := func(name string, may bool) {
		t.Helper()
		d := fresh(t, 100)
		puts(t, d, "from", []byte("1"))
		dark := d.Clone()
		takePower(t, dark, "from")
		if !may {
			before, darkBefore := look(d), look(dark)
			openFails(t, d, name, api.ErrArg)
			openFails(t, dark, name, api.ErrArg)
			openFails(t, nil, name, api.ErrArg)
			if look(d) != before || look(dark) != darkBefore {
				t.Fatalf("Open(%q) has changed the disk", name)
			}
			return
		}
		openFails(t, dark, name, api.ErrCut)
		l := opens(t, d, name)
		appends(t, l, "record")
		has(t, d, name, oracleFrame("record"))
		opens(t, d, name, "record")
	}
	for c := range 256 {
		b := byte(c)
		may := b == '.' || strings.IndexByte("abcdefghijklmnopqrstuvwxyz0123456789", b) >= 0
		is(string([]byte{b}), may)
		is(string([]byte{'a', b}), may)
		is(strings.Repeat("a", 31)+string([]byte{b}), may)
	}
	for n := range 70 {
		is(strings.Repeat(".", n), n >= 1 && n <= 32)
	}
	for _, name := range []string{"", "é", "Log", "a/b", "log ", "\x00", strings.Repeat("é", 16), strings.Repeat("a", 1<<16)} {
		is(name, false)
	}
}

// P11.3: ErrArg of no disk; R2: it is ahead of ErrCut.
func TestOpenOfNoDisk(t *testing.T) {
	openFails(t, nil, "log", api.ErrArg)
	openFails(t, nil, "", api.ErrArg)
	d := fresh(t, 100)
	puts(t, d, "log", oracleFrame("one"))
	takePower(t, d, "log")
	before := look(d)
	openFails(t, d, "", api.ErrArg)
	openFails(t, d, "log", api.ErrCut)
	openFails(t, d, "none", api.ErrCut)
	if look(d) != before {
		t.Fatalf("Open has made %s of %s", look(d), before)
	}
	d.Power(0)
	opens(t, d, "log", "one")
}

// P11.3: the power may go while the file is truncated: no log, and the file as it was.
func TestOpenCutOff(t *testing.T) {
	d := fresh(t, 100)
	torn := append(oracleFrames("one", "two"), "torn"...)
	puts(t, d, "log", torn)
	answers(t, "Cut", d.Cut(0), nil)
	openFails(t, d, "log", api.ErrCut)
	if d.On() {
		t.Fatalf("the power is on")
	}
	openFails(t, d, "log", api.ErrCut)
	d.Power(0)
	has(t, d, "log", torn)
	answers(t, "Cut", d.Cut(1), nil)
	l := opens(t, d, "log", "one", "two")
	has(t, d, "log", oracleFrames("one", "two"))
	answers(t, "Append", l.Append(nil), api.ErrCut)
	d.Power(0)
	opens(t, d, "log", "one", "two")
	answers(t, "Cut", d.Cut(0), nil)
	opens(t, d, "log", "one", "two")
	if !d.On() {
		t.Fatalf("an Open of whole frames alone took the power")
	}
}

// P11.4: a frame behind the others, synced, by two steps.
func TestAppend(t *testing.T) {
	d := fresh(t, 1<<20)
	l := opens(t, d, "log")
	other := opens(t, d, "other")
	var list []string
	for i := range 40 {
		record := strings.Repeat(string(rune('a'+i%26)), i*i)
		steps := d.Steps()
		appends(t, l, record)
		if d.Steps() != steps+2 {
			t.Fatalf("Append: %d steps; not %d", d.Steps(), steps+2)
		}
		list = append(list, record)
		appends(t, other, "-")
		has(t, d, "log", oracleFrames(list...))
		dark := d.Clone()
		takePower(t, dark, "log")
		dark.Power(0)
		opens(t, dark, "log", list...)
		opens(t, dark, "other", strings.Split(strings.Repeat("-", i+1), "")...)
		if i%3 == 0 {
			l = opens(t, d, "log", list...)
		}
	}
	answers(t, "Append of nil", l.Append(nil), nil)
	answers(t, "Append of none", l.Append([]byte{}), nil)
	opens(t, d, "log", append(list, "", "")...)
}

// R3: what is handed in is neither changed nor kept.
func TestAppendKeepsNothing(t *testing.T) {
	d := fresh(t, 100)
	l := opens(t, d, "log")
	b := append(make([]byte, 0, 64), "abc"...)
	answers(t, "Append", l.Append(b), nil)
	if string(b) != "abc" || !bytes.Equal(b[:cap(b)][3:], make([]byte, 61)) {
		t.Fatalf("Append has changed its argument: %q", b[:cap(b)])
	}
	b[0] = 'x'
	opens(t, d, "log", "abc")
}

// P11.4: ErrLong is ahead of all errors of the disk, and nothing has changed.
func TestAppendOfLongRecords(t *testing.T) {
	d := fresh(t, 1<<22)
	l := opens(t, d, "log")
	answers(t, "Append of MaxRecord and 1", l.Append(make([]byte, bound+1)), api.ErrLong)
	if d.Used() != 0 || d.Steps() != 0 || len(d.Names()) != 0 {
		t.Fatalf("ErrLong has changed the disk: %s", look(d))
	}
	longest := strings.Repeat("r", bound)
	appends(t, l, longest)
	opens(t, d, "log", longest)

	full := fresh(t, 10)
	l = opens(t, full, "log")
	answers(t, "Append without room", l.Append(make([]byte, bound+1)), api.ErrLong)
	answers(t, "Append without room", l.Append(make([]byte, bound)), api.ErrFull)
	appends(t, l, "")
	takePower(t, full, "log")
	before := look(full)
	answers(t, "Append without power", l.Append(make([]byte, bound+1)), api.ErrLong)
	answers(t, "Append without power", l.Append(make([]byte, bound)), api.ErrCut)
	if look(full) != before {
		t.Fatalf("Append has made %s of %s", look(full), before)
	}
}

// P11.4: behind ErrFull nothing has changed, not even the budget.
func TestAppendWithoutRoom(t *testing.T) {
	for room := range 40 {
		for n := range 20 {
			d := fresh(t, room)
			l := opens(t, d, "log")
			before := look(d)
			if n+8 <= room {
				appends(t, l, "0123456789abcdefghij"[:n])
				opens(t, d, "log", "0123456789abcdefghij"[:n])
				continue
			}
			answers(t, "Cut", d.Cut(0), nil)
			answers(t, fmt.Sprintf("%d bytes, room for %d", n, room), l.Append(make([]byte, n)), api.ErrFull)
			if look(d) != before {
				t.Fatalf("ErrFull has made %s of %s", look(d), before)
			}
		}
	}
	d := fresh(t, 30)
	l := opens(t, d, "log")
	appends(t, l, "one")
	before := look(d)
	answers(t, "12 bytes, room for 11", l.Append([]byte("0123456789ab")), api.ErrFull)
	if look(d) != before {
		t.Fatalf("ErrFull has made %s of %s", look(d), before)
	}
	appends(t, l, "two", "")
	answers(t, "a full disk", l.Append(nil), api.ErrFull)
	opens(t, d, "log", "one", "two", "")
	answers(t, "Clear", l.Clear(), nil)
	appends(t, l, "0123456789abcdefghijkl")
	opens(t, d, "log", "0123456789abcdefghijkl")
}

// P11.4, P11.6: the power goes at either step of an Append, and each first part of the frame may be left.
func TestAppendCutOff(t *testing.T) {
	const record = "under way"
	for budget := range 3 {
		for keep := -1; keep <= len(record)+9; keep++ {
			d := fresh(t, 100)
			l := opens(t, d, "log")
			appends(t, l, "one", "two")
			answers(t, "Cut", d.Cut(budget), nil)
			if budget == 2 {
				appends(t, l, record)
				answers(t, "Append", l.Append(nil), api.ErrCut)
				d.Power(0)
				opens(t, d, "log", "one", "two", record)
				continue
			}
			answers(t, "Append", l.Append([]byte(record)), api.ErrCut)
			if d.On() || d.Used() != 2*11+8+len(record) {
				t.Fatalf("cut off: %s", look(d))
			}
			before := look(d)
			answers(t, "Append without power", l.Append([]byte(record)), api.ErrCut)
			if look(d) != before {
				t.Fatalf("without power Append has made %s of %s", look(d), before)
			}
			d.Power(keep)
			left := max(keep, 0) % (8 + len(record) + 1)
			has(t, d, "log", append(oracleFrames("one", "two"), oracleFrame(record)[:left]...))
			if left == 8+len(record) {
				l = opens(t, d, "log", "one", "two", record)
				appends(t, l, "on")
				opens(t, d, "log", "one", "two", record, "on")
			} else {
				l = opens(t, d, "log", "one", "two")
				appends(t, l, "on")
				opens(t, d, "log", "one", "two", "on")
			}
		}
	}
}

// P11.4, P11.5: a log has the disk itself and the file's name: it writes behind whatever the file has by then.
func TestLogIsOfTheFile(t *testing.T) {
	d := fresh(t, 1000)
	name := strings.Clone("log")
	l, again := opens(t, d, name), opens(t, d, "log")
	appends(t, l, "one")
	appends(t, again, "two")
	answers(t, "the disk's Append", d.Append("log", []byte("torn")), nil)
	appends(t, l, "three")
	has(t, d, "log", append(append(oracleFrames("one", "two"), "torn"...), oracleFrame("three")...))
	opens(t, d, "log", "one", "two")
	answers(t, "Rename", d.Rename("log", "old"), nil)
	appends(t, l, "new")
	has(t, d, "log", oracleFrame("new"))
	has(t, d, "old", oracleFrames("one", "two"))
	answers(t, "Remove", d.Remove("log"), nil)
	answers(t, "Clear", again.Clear(), nil)
	if names := d.Names(); !slices.Equal(names, []string{"old"}) {
		t.Fatalf("Names: %q", names)
	}
	appends(t, again, "newer")
	opens(t, d, "log", "newer")
}

// P11.5: the file, if there is one, has no bytes behind it, by one step.
func TestClear(t *testing.T) {
	d := fresh(t, 100)
	l := opens(t, d, "log")
	puts(t, d, "other", []byte("kept"))
	before := look(d)
	answers(t, "Cut", d.Cut(0), nil)
	answers(t, "Clear of no file", l.Clear(), nil)
	if look(d) != before {
		t.Fatalf("Clear of no file has made %s of %s", look(d), before)
	}
	d.Power(0)
	for range 3 {
		appends(t, l, "one", "", "three")
		answers(t, "the disk's Append", d.Append("log", []byte("torn")), nil)
		for range 2 {
			steps := d.Steps()
			answers(t, "Clear", l.Clear(), nil)
			has(t, d, "log", nil)
			has(t, d, "other", []byte("kept"))
			if d.Steps() != steps+1 {
				t.Fatalf("Clear: %d steps; not %d", d.Steps(), steps+1)
			}
		}
		opens(t, d, "log")
		dark := d.Clone()
		takePower(t, dark, "log")
		dark.Power(9)
		opens(t, dark, "log")
	}
	appends(t, l, "behind")
	opens(t, d, "log", "behind")
}

// P11.5: a Clear that is cut off has done nothing.
func TestClearCutOff(t *testing.T) {
	for _, list := range [][]string{{"one"}, {"one", "", "three"}} {
		d := fresh(t, 100)
		l := opens(t, d, "log")
		appends(t, l, list...)
		answers(t, "Cut", d.Cut(0), nil)
		answers(t, "Clear", l.Clear(), api.ErrCut)
		if d.On() {
			t.Fatalf("the power is on")
		}
		answers(t, "Clear without power", l.Clear(), api.ErrCut)
		d.Power(0)
		opens(t, d, "log", list...)
		answers(t, "Cut", d.Cut(1), nil)
		answers(t, "Clear", l.Clear(), nil)
		answers(t, "Clear", l.Clear(), api.ErrCut)
		d.Power(0)
		opens(t, d, "log")
	}
}

// P11.5: without power the disk's error is ErrCut, also where there is no file.
func TestClearWithoutPower(t *testing.T) {
	d := fresh(t, 100)
	l := opens(t, d, "log")
	puts(t, d, "other", []byte("kept"))
	takePower(t, d, "other")
	before := look(d)
	answers(t, "Clear of no file, without power", l.Clear(), api.ErrCut)
	if look(d) != before {
		t.Fatalf("Clear has made %s of %s", look(d), before)
	}
	d.Power(0)
	answers(t, "Clear of no file", l.Clear(), nil)
}

// deed is an Append of a record, or a Clear.
type deed struct {
	record string
	clear  bool
}

func (s deed) do(l *wal.Log) error {
	if s.clear {
		return l.Clear()
	}
	return l.Append([]byte(s.record))
}

// behind is what a log has behind a deed that was done.
func (s deed) behind(list []string) []string {
	if s.clear {
		return nil
	}
	return append(slices.Clone(list), s.record)
}

// goesOn does what is left of some deeds up to the power's end, and tells what is left then, and what the log has by its answers.
func goesOn(t *testing.T, d *disk.Disk, deeds []deed, list []string) ([]deed, []string) {
	t.Helper()
	l, records, err := wal.Open(d, "log")
	if err == api.ErrCut {
		return deeds, list
	}
	if err != nil || !slices.Equal(texts(records), list) {
		t.Fatalf("Open: %q, %v; not %q", records, err, list)
	}
	for len(deeds) > 0 {
		if err := deeds[0].do(l); err == api.ErrCut {
			return deeds, list
		} else if err != nil {
			t.Fatalf("%v: %v", deeds[0], err)
		}
		list, deeds = deeds[0].behind(list), deeds[1:]
	}
	return nil, list
}

// settles holds what is there behind a cut: all that was answered, and of what was under way all or nothing.
func settles(t *testing.T, d *disk.Disk, deeds []deed, list []string) ([]deed, []string) {
	t.Helper()
	_, records, err := wal.Open(d.Clone(), "log")
	if err != nil {
		t.Fatalf("Open behind a cut: %v", err)
	}
	told := texts(records)
	if len(deeds) > 0 && !slices.Equal(told, list) {
		list, deeds = deeds[0].behind(list), deeds[1:]
	}
	if !slices.Equal(told, list) {
		t.Fatalf("behind a cut: %q; not %q, with or without what was under way", told, list)
	}
	return deeds, list
}

// P11.6: cuts at all pairs of steps, with all torn parts; what was answered is told.
func TestCuts(t *testing.T) {
	deeds := []deed{{record: "a"}, {record: ""}, {clear: true}, {record: "bc"}, {record: "d"}, {clear: true}, {record: "efg"}}
	for first := range 14 {
		for keep := range 12 {
			for second := range 14 {
				for again := range 12 {
					d := fresh(t, 100)
					left, list := deeds, []string(nil)
					for i, budget := range []int{first, second, 1 << 10} {
						answers(t, "Cut", d.Cut(budget), nil)
						left, list = goesOn(t, d, left, list)
						d.Power([]int{keep, again, 0}[i])
						left, list = settles(t, d, left, list)
					}
					if len(left) != 0 || !slices.Equal(list, []string{"efg"}) {
						t.Fatalf("in the end: %q, %v left", list, left)
					}
					opens(t, d, "log", "efg")
					opens(t, d, "log", "efg")
				}
			}
		}
	}
}

// P11.6: long runs with cuts by chance, on disks that may be full.
func TestCutsByChance(t *testing.T) {
	r := rand.New(rand.NewSource(6))
	for range 300 {
		room := 60 + r.Intn(400)
		d := fresh(t, room)
		var list []string
		for range 40 {
			if r.Intn(3) > 0 {
				answers(t, "Cut", d.Cut(r.Intn(12)), nil)
			}
			var deeds []deed
			for range r.Intn(6) {
				deeds = append(deeds, deed{record: string(chance(r, r.Intn(20))), clear: r.Intn(8) == 0})
			}
			var left []deed
			left, list = goesOnWithin(t, d, room, deeds, list)
			d.Power(r.Intn(60) - 1)
			_, list = settles(t, d, left, list)
		}
	}
}

// goesOnWithin does deeds as goesOn, but drops those for which there is no room.
func goesOnWithin(t *testing.T, d *disk.Disk, room int, deeds []deed, list []string) ([]deed, []string) {
	t.Helper()
	for len(deeds) > 0 {
		used := len(oracleFrames(list...))
		if !deeds[0].clear && used+8+len(deeds[0].record) > room {
			l, _, err := wal.Open(d, "log")
			if err == nil {
				answers(t, "a full disk", l.Append([]byte(deeds[0].record)), api.ErrFull)
			}
			deeds = deeds[1:]
			continue
		}
		left, now := goesOn(t, d, deeds[:1], list)
		if len(left) > 0 {
			return left, now
		}
		list, deeds = now, deeds[1:]
	}
	return nil, list
}
