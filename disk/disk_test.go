package disk_test

import (
	"bytes"
	"fmt"
	"math"
	"math/rand"
	"slices"
	"strings"
	"testing"
	"unsafe"

	"covey/api"
	"covey/disk"
)

func fresh(t *testing.T, room int) *disk.Disk {
	t.Helper()
	d, err := disk.New(room)
	if d == nil || err != nil {
		t.Fatalf("New(%d): %v, %v", room, d, err)
	}
	return d
}

// answers holds that an error is the very one.
func answers(t *testing.T, what string, err, want error) {
	t.Helper()
	if err != want {
		t.Fatalf("%s: %v; not %v", what, err, want)
	}
}

// reads holds that a file has these bytes.
func reads(t *testing.T, d *disk.Disk, name, want string) {
	t.Helper()
	if b, err := d.Read(name); err != nil || string(b) != want {
		t.Fatalf("Read(%q): %q, %v; not %q", name, b, err, want)
	}
}

// readFails holds that a file's bytes are refused, with nothing beside the error.
func readFails(t *testing.T, d *disk.Disk, name string, want error) {
	t.Helper()
	if b, err := d.Read(name); len(b) != 0 || err != want {
		t.Fatalf("Read(%q): %q, %v; not %v", name, b, err, want)
	}
}

// appends and syncs are what the other tests begin with.
func appends(t *testing.T, d *disk.Disk, name, b string) {
	t.Helper()
	answers(t, "Append", d.Append(name, []byte(b)), nil)
}

func syncs(t *testing.T, d *disk.Disk, name string) {
	t.Helper()
	answers(t, "Sync", d.Sync(name), nil)
}

// takePower lets it go at once, at a step that changes nothing.
func takePower(t *testing.T, d *disk.Disk, name string) {
	t.Helper()
	answers(t, "Cut", d.Cut(0), nil)
	answers(t, "Sync at a budget of 0", d.Sync(name), api.ErrCut)
	if d.On() {
		t.Fatalf("the power is on")
	}
}

// called is a call of a disk that answers an error alone, and what it is by the oracle.
type called struct {
	what   string
	disk   func(d *disk.Disk) error
	oracle func(o *oracle) error
}

func callAppend(name, b string) called {
	return called{fmt.Sprintf("Append(%q, %q)", name, b),
		func(d *disk.Disk) error { return d.Append(name, []byte(b)) },
		func(o *oracle) error { return o.Append(name, []byte(b)) }}
}

func callSync(name string) called {
	return called{fmt.Sprintf("Sync(%q)", name),
		func(d *disk.Disk) error { return d.Sync(name) },
		func(o *oracle) error { return o.Sync(name) }}
}

func callTruncate(name string, size int) called {
	return called{fmt.Sprintf("Truncate(%q, %d)", name, size),
		func(d *disk.Disk) error { return d.Truncate(name, size) },
		func(o *oracle) error { return o.Truncate(name, size) }}
}

func callRename(from, to string) called {
	return called{fmt.Sprintf("Rename(%q, %q)", from, to),
		func(d *disk.Disk) error { return d.Rename(from, to) },
		func(o *oracle) error { return o.Rename(from, to) }}
}

func callRemove(name string) called {
	return called{fmt.Sprintf("Remove(%q)", name),
		func(d *disk.Disk) error { return d.Remove(name) },
		func(o *oracle) error { return o.Remove(name) }}
}

func callCut(budget int) called {
	return called{fmt.Sprintf("Cut(%d)", budget),
		func(d *disk.Disk) error { return d.Cut(budget) },
		func(o *oracle) error { return o.Cut(budget) }}
}

func callPower(keep int) called {
	return called{fmt.Sprintf("Power(%d)", keep),
		func(d *disk.Disk) error { d.Power(keep); return nil },
		func(o *oracle) error { o.Power(keep); return nil }}
}

// stands holds all that a disk tells against the oracle.
func stands(t *testing.T, d *disk.Disk, o *oracle, path string) {
	t.Helper()
	names := slices.Sorted(slices.Values(o.names))
	if !slices.Equal(d.Names(), names) || d.Used() != len(o.cells) || d.On() == o.dark || d.Steps() != o.done {
		t.Fatalf("behind %s: names %q, used %d, on %v, steps %d; not %q, %d, %v, %d", path,
			d.Names(), d.Used(), d.On(), d.Steps(), names, len(o.cells), !o.dark, o.done)
	}
	for _, name := range append(names, "none", "No", "") {
		want, _ := o.read(name)
		wrong := o.refused(name)
		if wrong != nil {
			want = nil
		}
		if b, err := d.Read(name); !bytes.Equal(b, want) || err != wrong {
			t.Fatalf("behind %s: Read(%q): %q, %v; not %q, %v", path, name, b, err, want, wrong)
		}
	}
}

// standsWithin holds also what a disk doesn't tell at once: the room, the budget, what is synced.
func standsWithin(t *testing.T, d *disk.Disk, o *oracle, path string) {
	t.Helper()
	stands(t, d, o, path)
	for _, keep := range []int{-1, 2} {
		d, o := d.Clone(), o.clone()
		does(t, d, o, callCut(0), path)
		for _, name := range slices.Clone(o.names) {
			does(t, d, o, callSync(name), path)
		}
		does(t, d, o, callPower(keep), path)
		stands(t, d, o, path+", without power for a while")
		does(t, d, o, callAppend("x", strings.Repeat("x", min(o.room-len(o.cells), 1<<12))), path)
		does(t, d, o, callAppend("x", strings.Repeat("x", min(o.room-len(o.cells), 1<<12)+1)), path)
	}
	d, o = d.Clone(), o.clone()
	for range 4 {
		does(t, d, o, callAppend("y", ""), path)
	}
	stands(t, d, o, path+", some steps on")
}

// does asks a disk and the oracle the same.
func does(t *testing.T, d *disk.Disk, o *oracle, c called, path string) {
	t.Helper()
	if err, want := c.disk(d), c.oracle(o); err != want {
		t.Fatalf("behind %s: %s: %v; not %v", path, c.what, err, want)
	}
}

func TestExamples(t *testing.T) {
	d := fresh(t, 10)
	appends(t, d, "a", "1234")
	answers(t, "Append of 7 bytes", d.Append("a", make([]byte, 7)), api.ErrFull)
	answers(t, "Append to A", d.Append("A", nil), api.ErrArg)
	readFails(t, d, "b", api.ErrNone)

	d = fresh(t, 10)
	appends(t, d, "a", "1234")
	syncs(t, d, "a")
	appends(t, d, "a", "56")
	answers(t, "Cut", d.Cut(0), nil)
	answers(t, "Append", d.Append("a", []byte("7")), api.ErrCut)
	if d.On() {
		t.Errorf("On")
	}
	d.Power(2)
	reads(t, d, "a", "123456")

	d = fresh(t, 10)
	appends(t, d, "a", "12")
	answers(t, "Cut", d.Cut(0), nil)
	answers(t, "Sync", d.Sync("a"), api.ErrCut)
	readFails(t, d, "a", api.ErrCut)
	d.Power(0)
	reads(t, d, "a", "")

	d = fresh(t, 10)
	appends(t, d, "a", "1")
	appends(t, d, "b", "2")
	answers(t, "Rename", d.Rename("a", "b"), nil)
	if l := d.Names(); !slices.Equal(l, []string{"b"}) {
		t.Errorf("Names: %q", l)
	}
	reads(t, d, "b", "1")

	d = fresh(t, 10)
	appends(t, d, "a", "123")
	answers(t, "Truncate to 4", d.Truncate("a", 4), api.ErrArg)
	answers(t, "Truncate to 1", d.Truncate("a", 1), nil)
	takePower(t, d, "a")
	d.Power(0)
	reads(t, d, "a", "1")
}

// P10.1
func TestNew(t *testing.T) {
	for _, room := range []int{-1, -2, math.MinInt} {
		if d, err := disk.New(room); d != nil || err != api.ErrArg {
			t.Errorf("New(%d): %v, %v", room, d, err)
		}
	}
	for _, room := range []int{0, 1, 10, 1 << 26, math.MaxInt} {
		d := fresh(t, room)
		if len(d.Names()) != 0 || d.Used() != 0 || d.Steps() != 0 || !d.On() {
			t.Errorf("New(%d): %q, %d, %d, %v", room, d.Names(), d.Used(), d.Steps(), d.On())
		}
		standsWithin(t, d, &oracle{room: room}, fmt.Sprintf("New(%d)", room))
		for range 100 {
			appends(t, d, "a", "")
		}
	}
}

// P10.2
func TestNamesRise(t *testing.T) {
	d := fresh(t, 1000)
	want := []string{".", "..", ".a", "0", "00", "09", "0a", "9", "a", "a.", "a0", "aa", "ab", "b", "z", "z.z", "zz"}
	for _, i := range rand.New(rand.NewSource(1)).Perm(len(want)) {
		appends(t, d, want[i], want[i])
	}
	for range 3 {
		if l := d.Names(); !slices.Equal(l, want) {
			t.Fatalf("Names: %q", l)
		}
	}
	used := len(strings.Join(want, ""))
	for _, name := range want {
		reads(t, d, name, name)
		syncs(t, d, name)
	}
	takePower(t, d, "a")
	if l := d.Names(); !slices.Equal(l, want) || d.Used() != used {
		t.Errorf("without power: %q, %d; not %d", l, d.Used(), used)
	}
	readFails(t, d, "a", api.ErrCut)
	readFails(t, d, "none", api.ErrCut)
	d.Power(0)
	if l := d.Names(); !slices.Equal(l, want) || d.Used() != used {
		t.Errorf("with power again: %q, %d; not %d", l, d.Used(), used)
	}
}

// A name may be or not, by the chapter's words, for a file that comes to be; where one must be there, it is none.
func TestWhatANameIs(t *testing.T) {
	d := fresh(t, 10)
	appends(t, d, "from", "1")
	is := func(name string, may bool) {
		t.Helper()
		want := error(nil)
		if !may {
			want = api.ErrArg
		}
		d := d.Clone()
		answers(t, fmt.Sprintf("Rename to %q", name), d.Clone().Rename("from", name), want)
		answers(t, fmt.Sprintf("Append to %q", name), d.Append(name, []byte("2")), want)
		if may {
			reads(t, d, name, "2")
			return
		}
		if l := d.Names(); !slices.Equal(l, []string{"from"}) || d.Used() != 1 || d.Steps() != 1 {
			t.Fatalf("behind Append to %q: %q", name, l)
		}
		readFails(t, d, name, api.ErrNone)
		answers(t, "Sync", d.Sync(name), api.ErrNone)
		answers(t, "Truncate", d.Truncate(name, 0), api.ErrNone)
		answers(t, "Remove", d.Remove(name), api.ErrNone)
		answers(t, "Rename", d.Rename(name, "to"), api.ErrNone)
	}
	for c := range 256 {
		b := byte(c)
		may := b == '.' || strings.IndexByte("abcdefghijklmnopqrstuvwxyz0123456789", b) >= 0
		is(string([]byte{b}), may)
		is(string([]byte{b, 'a'}), may)
		is(string([]byte{'a', b}), may)
		is(strings.Repeat("a", 31)+string([]byte{b}), may)
		is(strings.Repeat("9", 16)+string([]byte{b})+strings.Repeat(".", 15), may)
	}
	for n := range 70 {
		is(strings.Repeat(".", n), n >= 1 && n <= 32)
		is(strings.Repeat("z", n), n >= 1 && n <= 32)
	}
	for _, name := range []string{"é", "٣", "a/b", "a b", "a\n", "\x00", "ａ", strings.Repeat("é", 16), strings.Repeat("a", 1<<16)} {
		is(name, false)
	}
}

// P10.2, P10.3
func TestAppend(t *testing.T) {
	d := fresh(t, 1000)
	appends(t, d, "a", "")
	reads(t, d, "a", "")
	whole := ""
	for i := range 40 {
		piece := strings.Repeat(string(rune('a'+i%26)), i%7)
		appends(t, d, "a", piece)
		appends(t, d, "b", "-")
		whole += piece
		reads(t, d, "a", whole)
		reads(t, d, "b", strings.Repeat("-", i+1))
		if d.Used() != len(whole)+i+1 || d.Steps() != 2*i+3 {
			t.Fatalf("Used %d, Steps %d", d.Used(), d.Steps())
		}
	}
	answers(t, "Append of nil", d.Append("c", nil), nil)
	reads(t, d, "c", "")
	every := make([]byte, 256)
	for i := range every {
		every[i] = byte(i)
	}
	appends(t, d, "c", string(every))
	reads(t, d, "c", string(every))
}

// P10.3: the room is that of all files; what is refused has changed nothing, and is no step.
func TestRoom(t *testing.T) {
	for room := range 12 {
		for n := range 14 {
			d := fresh(t, room)
			want := error(nil)
			if n > room {
				want = api.ErrFull
			}
			answers(t, fmt.Sprintf("%d bytes, room for %d", n, room), d.Append("a", make([]byte, n)), want)
			if want != nil && (len(d.Names()) != 0 || d.Used() != 0 || d.Steps() != 0) {
				t.Fatalf("ErrFull made %q", d.Names())
			}
		}
	}
	d := fresh(t, 10)
	appends(t, d, "a", "123456")
	appends(t, d, "b", "7890")
	answers(t, "a full disk", d.Append("a", []byte("1")), api.ErrFull)
	appends(t, d, "c", "")
	answers(t, "Truncate", d.Truncate("a", 4), nil)
	answers(t, "3 bytes, room for 2", d.Append("b", []byte("123")), api.ErrFull)
	appends(t, d, "b", "12")
	answers(t, "Remove", d.Remove("b"), nil)
	answers(t, "7 bytes, room for 6", d.Append("b", []byte("1234567")), api.ErrFull)
	appends(t, d, "b", "123456")
	answers(t, "Rename", d.Rename("a", "b"), nil)
	answers(t, "7 bytes, room for 6", d.Append("c", []byte("1234567")), api.ErrFull)
	appends(t, d, "c", "123456")
	if d.Used() != 10 {
		t.Errorf("Used: %d", d.Used())
	}
}

// Neither the room's bound nor a sum of lengths wraps.
func TestGreatRoom(t *testing.T) {
	d := fresh(t, math.MaxInt)
	for range 8 {
		answers(t, "Append", d.Append("a", make([]byte, 1<<20)), nil)
	}
	if d.Used() != 8<<20 {
		t.Errorf("Used: %d", d.Used())
	}
}

// P10.3: an Append that has no room is no step, whatever the budget; one that has is, and is done, also where the power goes.
func TestRoomAheadOfTheBudget(t *testing.T) {
	d := fresh(t, 3)
	appends(t, d, "a", "1")
	answers(t, "Cut", d.Cut(0), nil)
	answers(t, "without room, at a budget of 0", d.Append("a", []byte("234")), api.ErrFull)
	answers(t, "without a name, at a budget of 0", d.Append("", nil), api.ErrArg)
	if !d.On() || d.Steps() != 1 {
		t.Fatalf("what is refused took the power")
	}
	answers(t, "with room, at a budget of 0", d.Append("a", []byte("23")), api.ErrCut)
	if d.On() || d.Used() != 3 || d.Steps() != 1 {
		t.Fatalf("on %v, used %d, steps %d", d.On(), d.Used(), d.Steps())
	}
	answers(t, "without power", d.Append("a", []byte("23")), api.ErrCut)
	answers(t, "without power", d.Append("b", nil), api.ErrCut)
	if l := d.Names(); len(l) != 1 || d.Used() != 3 {
		t.Fatalf("without power: %q, %d", l, d.Used())
	}
	d.Power(3)
	reads(t, d, "a", "123")
	answers(t, "a full disk", d.Append("a", []byte("4")), api.ErrFull)
}

// P10.3: the Append that is cut off makes its file.
func TestCutOffAppendMakesAFile(t *testing.T) {
	for keep := -1; keep < 8; keep++ {
		d := fresh(t, 10)
		answers(t, "Cut", d.Cut(0), nil)
		answers(t, "Append", d.Append("a", []byte("123")), api.ErrCut)
		if l := d.Names(); !slices.Equal(l, []string{"a"}) || d.Used() != 3 || d.Steps() != 0 {
			t.Fatalf("cut off: %q, %d, %d", l, d.Used(), d.Steps())
		}
		d.Power(keep)
		reads(t, d, "a", "123"[:max(keep, 0)%4])
	}
	d := fresh(t, 10)
	answers(t, "Cut", d.Cut(0), nil)
	answers(t, "Append", d.Append("a", nil), api.ErrCut)
	d.Power(7)
	reads(t, d, "a", "")
}

// P10.4: what is appended behind a Sync isn't synced, what is ahead of it is; of other files nothing is.
func TestSync(t *testing.T) {
	for first := range 4 {
		for second := range 4 {
			d := fresh(t, 100)
			appends(t, d, "a", "abc"[:first])
			appends(t, d, "b", "xyz")
			syncs(t, d, "a")
			reads(t, d, "a", "abc"[:first])
			appends(t, d, "a", "def"[:second])
			other := d.Clone()
			syncs(t, other, "a")
			takePower(t, d, "a")
			d.Power(0)
			reads(t, d, "a", "abc"[:first])
			reads(t, d, "b", "")
			takePower(t, other, "a")
			other.Power(0)
			reads(t, other, "a", "abc"[:first]+"def"[:second])
			reads(t, other, "b", "")
		}
	}
	d := fresh(t, 0)
	answers(t, "Sync of none", d.Sync("a"), api.ErrNone)
}

// P10.5: each size of a file, whatever of it is synced.
func TestTruncate(t *testing.T) {
	const whole = "abcdef"
	for synced := range len(whole) + 1 {
		for size := -2; size <= len(whole)+2; size++ {
			d := fresh(t, 100)
			appends(t, d, "a", whole[:synced])
			syncs(t, d, "a")
			appends(t, d, "a", whole[synced:])
			appends(t, d, "b", "xyz")
			if size < 0 || size > len(whole) {
				answers(t, fmt.Sprintf("Truncate to %d", size), d.Truncate("a", size), api.ErrArg)
				reads(t, d, "a", whole)
				takePower(t, d, "a")
				d.Power(0)
				reads(t, d, "a", whole[:synced])
				continue
			}
			answers(t, fmt.Sprintf("Truncate to %d", size), d.Truncate("a", size), nil)
			reads(t, d, "a", whole[:size])
			appends(t, d, "a", "-+")
			reads(t, d, "a", whole[:size]+"-+")
			reads(t, d, "b", "xyz")
			takePower(t, d, "a")
			d.Power(1)
			reads(t, d, "a", whole[:size]+"-")
			reads(t, d, "b", "x")
		}
	}
	d := fresh(t, 10)
	appends(t, d, "a", "1")
	for _, size := range []int{math.MinInt, math.MaxInt} {
		answers(t, fmt.Sprintf("Truncate to %d", size), d.Truncate("a", size), api.ErrArg)
	}
}

// P10.6: a file goes with what is synced of it, at once, and one that had the name is away.
func TestRename(t *testing.T) {
	d := fresh(t, 100)
	appends(t, d, "a", "12")
	syncs(t, d, "a")
	appends(t, d, "a", "34")
	appends(t, d, "b", "5678")
	syncs(t, d, "b")
	for _, to := range []string{"a", "b", "c"} {
		d := d.Clone()
		answers(t, "Rename", d.Rename("a", to), nil)
		want := map[string][]string{"a": {"a", "b"}, "b": {"b"}, "c": {"b", "c"}}[to]
		if l := d.Names(); !slices.Equal(l, want) || d.Steps() != 6 {
			t.Fatalf("Rename to %q: %q, %d steps", to, l, d.Steps())
		}
		reads(t, d, to, "1234")
		if to != "a" {
			readFails(t, d, "a", api.ErrNone)
		}
		takePower(t, d, to)
		if l := d.Names(); !slices.Equal(l, want) {
			t.Fatalf("Rename to %q, without power: %q", to, l)
		}
		d.Power(1)
		reads(t, d, to, "123")
		if l := d.Names(); !slices.Equal(l, want) {
			t.Fatalf("Rename to %q, with power again: %q", to, l)
		}
		if to != "b" {
			reads(t, d, "b", "5678")
		}
	}
	answers(t, "Rename of none", d.Rename("c", "a"), api.ErrNone)
	answers(t, "Rename of none", d.Rename("c", "c"), api.ErrNone)
	answers(t, "Rename to no name", d.Rename("a", "A"), api.ErrArg)
}

// P10.6
func TestRemove(t *testing.T) {
	d := fresh(t, 100)
	appends(t, d, "a", "12")
	syncs(t, d, "a")
	appends(t, d, "b", "34")
	answers(t, "Remove", d.Remove("a"), nil)
	answers(t, "Remove", d.Remove("a"), api.ErrNone)
	readFails(t, d, "a", api.ErrNone)
	takePower(t, d, "b")
	d.Power(2)
	if l := d.Names(); !slices.Equal(l, []string{"b"}) || d.Used() != 2 {
		t.Fatalf("behind Remove: %q, %d", l, d.Used())
	}
	appends(t, d, "a", "5")
	takePower(t, d, "a")
	d.Power(0)
	reads(t, d, "a", "")
}

// steps are calls that get so far as to be counted, of a disk with the files a and b.
var steps = []called{
	callAppend("a", "+"), callAppend("a", ""), callAppend("new", "+"), callSync("a"), callTruncate("a", 1), callTruncate("a", 3),
	callRename("a", "b"), callRename("a", "new"), callRename("a", "a"), callRemove("b"),
}

// refusals are calls that don't, of such a disk with 20 bytes of room.
var refusals = []called{
	callAppend("", ""), callAppend("A", "+"), callAppend("a", strings.Repeat("+", 21)), callSync("none"), callSync(""),
	callTruncate("none", 0), callTruncate("a", -1), callTruncate("a", 4), callRename("a", ""), callRename("none", "a"),
	callRename("none", "none"), callRemove("none"), callRemove("B"), callCut(-1),
}

func twoFiles(t *testing.T) (*disk.Disk, *oracle) {
	t.Helper()
	d, o := fresh(t, 20), &oracle{room: 20}
	for _, c := range []called{callAppend("a", "1"), callSync("a"), callAppend("a", "23"), callAppend("b", "45"), callSync("b")} {
		does(t, d, o, c, "New")
	}
	return d, o
}

// P10.3 to P10.7: the power stays for as many steps as the budget has, and goes at the next.
func TestBudget(t *testing.T) {
	for budget := range 5 {
		for _, last := range steps {
			d, o := twoFiles(t)
			path := fmt.Sprintf("Cut(%d), %s", budget, last.what)
			does(t, d, o, callCut(budget), "two files")
			for i := range budget {
				answers(t, path, d.Append("b", []byte("-")), nil)
				o.Append("b", []byte("-"))
				if !d.On() || d.Steps() != 5+i+1 {
					t.Fatalf("%s: on %v, steps %d", path, d.On(), d.Steps())
				}
			}
			before := d.Clone()
			answers(t, path, last.disk(d), api.ErrCut)
			if d.On() || d.Steps() != 5+budget {
				t.Fatalf("%s: on %v, steps %d", path, d.On(), d.Steps())
			}
			if !strings.HasPrefix(last.what, "Append") && (d.Used() != before.Used() || !slices.Equal(d.Names(), before.Names())) {
				t.Fatalf("%s: %q, %d", path, d.Names(), d.Used())
			}
			last.oracle(o)
			standsWithin(t, d, o, path)
			d.Power(0)
			o.Power(0)
			for range 10 {
				answers(t, path+", behind Power", d.Append("b", nil), nil)
				o.Append("b", nil)
			}
			standsWithin(t, d, o, path+", Power(0)")
		}
	}
}

// What is refused takes nothing of the budget, not even the power.
func TestRefusalsAreNoSteps(t *testing.T) {
	for _, c := range refusals {
		for budget := range 3 {
			d, o := twoFiles(t)
			does(t, d, o, callCut(budget), "two files")
			kept := o.clone()
			for range 3 {
				if err := c.disk(d); err == nil || err == api.ErrCut {
					t.Fatalf("%s: %v", c.what, err)
				}
				does(t, d, o, c, "two files")
			}
			standsWithin(t, d, kept, c.what)
		}
	}
}

// R2: of several errors that apply it is the one that the promise names first.
func TestWhichErrorIsFirst(t *testing.T) {
	on, _ := twoFiles(t)
	off := on.Clone()
	takePower(t, off, "a")
	for _, c := range []struct {
		d    *disk.Disk
		call called
		want error
	}{
		{off, callAppend("A", ""), api.ErrArg},
		{off, callAppend("A", strings.Repeat("+", 21)), api.ErrArg},
		{off, callAppend("a", strings.Repeat("+", 21)), api.ErrCut},
		{off, callAppend("a", ""), api.ErrCut},
		{on, callAppend("A", strings.Repeat("+", 21)), api.ErrArg},
		{on, callAppend("none", strings.Repeat("+", 21)), api.ErrFull},
		{off, callSync("none"), api.ErrCut},
		{off, callSync("a"), api.ErrCut},
		{off, callSync(""), api.ErrCut},
		{on, callSync(""), api.ErrNone},
		{off, callTruncate("none", -1), api.ErrCut},
		{off, callTruncate("a", -1), api.ErrCut},
		{off, callTruncate("a", 0), api.ErrCut},
		{on, callTruncate("none", -1), api.ErrNone},
		{on, callTruncate("A", 0), api.ErrNone},
		{on, callTruncate("a", -1), api.ErrArg},
		{off, callRename("none", "A"), api.ErrArg},
		{off, callRename("a", ""), api.ErrArg},
		{off, callRename("none", "a"), api.ErrCut},
		{off, callRename("a", "a"), api.ErrCut},
		{on, callRename("none", "A"), api.ErrArg},
		{on, callRename("A", "a"), api.ErrNone},
		{off, callRemove("none"), api.ErrCut},
		{off, callRemove("a"), api.ErrCut},
		{on, callRemove("A"), api.ErrNone},
		{off, callCut(-1), api.ErrArg},
		{off, callCut(0), nil},
		{on, callCut(math.MinInt), api.ErrArg},
		{on, callCut(math.MaxInt), nil},
	} {
		answers(t, c.call.what, c.call.disk(c.d), c.want)
	}
}

// P10.7: without power nothing is changed by any call but Power, and a budget isn't taken.
func TestWithoutPower(t *testing.T) {
	for _, c := range slices.Concat(steps, refusals, []called{callCut(0), callCut(1)}) {
		d, o := twoFiles(t)
		takePower(t, d, "a")
		o.dark = true
		c.disk(d)
		standsWithin(t, d, o, c.what+" without power")
		d.Power(0)
		for range 5 {
			appends(t, d, "a", "")
		}
	}
}

// P10.7: a budget takes the place of another, and is that from then on.
func TestCutAnew(t *testing.T) {
	d := fresh(t, 10)
	for _, l := range [][]int{{0, 2}, {5, 2}, {2, 2}, {math.MaxInt, 2}} {
		d := d.Clone()
		for _, budget := range l {
			answers(t, "Cut", d.Cut(budget), nil)
		}
		answers(t, "Cut", d.Cut(-1), api.ErrArg)
		appends(t, d, "a", "")
		appends(t, d, "a", "")
		answers(t, "the third step", d.Append("a", nil), api.ErrCut)
	}
	answers(t, "Cut", d.Cut(math.MaxInt), nil)
	for range 10 {
		appends(t, d, "a", "")
	}
}

// P10.7: what is left of each file, by each number, is synced and all that there is.
func TestPower(t *testing.T) {
	const whole = "0123456789"
	keeps := []int{math.MinInt, math.MinInt + 1, -3, -2, -1, math.MaxInt - 1, math.MaxInt, 1 << 32, 1<<32 - 1}
	for keep := range 40 {
		keeps = append(keeps, keep)
	}
	for _, keep := range keeps {
		d := fresh(t, 1000)
		want := map[string]string{}
		for synced := range 4 {
			for loose := range 7 {
				name := fmt.Sprintf("%d.%d", synced, loose)
				appends(t, d, name, whole[:synced])
				syncs(t, d, name)
				appends(t, d, name, whole[synced:synced+loose])
				want[name] = whole[:synced]
				if keep >= 0 {
					want[name] = whole[:synced+keep%(loose+1)]
				}
			}
		}
		names := d.Names()
		takePower(t, d, "0.0")
		d.Power(keep)
		for range 3 {
			used := 0
			for name, b := range want {
				reads(t, d, name, b)
				used += len(b)
			}
			if !d.On() || !slices.Equal(d.Names(), names) || d.Used() != used {
				t.Fatalf("Power(%d): %v, %q, %d", keep, d.On(), d.Names(), d.Used())
			}
			takePower(t, d, "0.0")
			d.Power(-1)
		}
	}
}

// P10.7: with the power on only the budget is taken away: what isn't synced stays, and stays so.
func TestPowerWhereItIsOn(t *testing.T) {
	for _, keep := range []int{math.MinInt, -1, 0, 1, 2, math.MaxInt} {
		d := fresh(t, 10)
		appends(t, d, "a", "12")
		syncs(t, d, "a")
		appends(t, d, "a", "345")
		answers(t, "Cut", d.Cut(0), nil)
		d.Power(keep)
		reads(t, d, "a", "12345")
		for range 3 {
			appends(t, d, "b", "")
		}
		if !d.On() || d.Steps() != 6 || d.Used() != 5 {
			t.Fatalf("Power(%d): %v, %d, %d", keep, d.On(), d.Steps(), d.Used())
		}
		takePower(t, d, "a")
		d.Power(0)
		reads(t, d, "a", "12")
	}
}

// P10.7: a clone stands alike in all that a disk is, and goes its own way, as does the other.
func TestClone(t *testing.T) {
	ahead := [][]called{nil, {callCut(0)}, {callCut(1)}, {callCut(3)}, {callCut(0), callAppend("a", "!")}, {callCut(0), callSync("a")}, {callCut(1), callPower(0)}}
	for _, l := range ahead {
		for _, c := range slices.Concat(steps, refusals, []called{callCut(0), callCut(2), callPower(1)}) {
			d, o := twoFiles(t)
			path := "two files"
			for _, c := range l {
				does(t, d, o, c, path)
				path += ", " + c.what
			}
			other, same := d.Clone(), o.clone()
			if other == d {
				t.Fatalf("Clone is the disk itself")
			}
			stands(t, other, same, path+", Clone")
			does(t, d, o, c, path)
			standsWithin(t, other, same, path+", Clone, and to the other "+c.what)
			standsWithin(t, d, o, path+", Clone, "+c.what)
			d, o = other.Clone(), same.clone()
			does(t, other, same, c, path+", Clone")
			standsWithin(t, d, o, path+", Clone, Clone, and to the other "+c.what)
			standsWithin(t, other, same, path+", Clone, Clone, "+c.what)
		}
	}
}

// A clone and its disk grow into no memory that both have.
func TestCloneGrows(t *testing.T) {
	d := fresh(t, 1<<16)
	for i := range 200 {
		appends(t, d, "a", "-")
		whole, _ := d.Read("a")
		other := d.Clone()
		appends(t, d, "a", "x")
		appends(t, other, "a", "y")
		reads(t, d, "a", string(whole)+"x")
		reads(t, other, "a", string(whole)+"y")
		if i%2 == 0 {
			d = other
		}
	}
}

// R3: what is handed in is neither changed nor kept.
func TestHandedIn(t *testing.T) {
	d := fresh(t, 1000)
	for _, n := range []int{0, 1, 7, 64, 100} {
		long := bytes.Repeat([]byte{'1'}, n+8)
		b := long[:n]
		answers(t, "Append", d.Append("a", b), nil)
		appends(t, d, "a", "2")
		if !bytes.Equal(long, bytes.Repeat([]byte{'1'}, n+8)) {
			t.Fatalf("Append changed what it was given, or what lies behind it")
		}
		whole, _ := d.Read("a")
		for i := range long {
			long[i] = 'x'
		}
		reads(t, d, "a", string(whole))
	}
	text := []byte("abc")
	name := unsafe.String(&text[0], len(text))
	appends(t, d, name, "1")
	appends(t, d, name, "2")
	text[0] = 'x'
	reads(t, d, "abc", "12")
	readFails(t, d, "xbc", api.ErrNone)
	answers(t, "Rename", d.Rename("abc", name), nil)
	text[0] = 'y'
	reads(t, d, "xbc", "12")
	if l := d.Names(); !slices.Equal(l, []string{"a", "xbc"}) {
		t.Errorf("Names: %q", l)
	}
}

// R3: what is answered is new memory, its spare room too.
func TestAnswered(t *testing.T) {
	d := fresh(t, 1000)
	appends(t, d, "a", "123")
	appends(t, d, "a", "4567890")
	for range 3 {
		b, _ := d.Read("a")
		other, _ := d.Read("a")
		b = b[:cap(b)]
		for i := range b {
			b[i] = 'x'
		}
		if string(other) != "1234567890" {
			t.Fatalf("two answers share memory: %q", other)
		}
		appends(t, d, "a", "1")
		reads(t, d, "a", "12345678901")
		answers(t, "Truncate", d.Truncate("a", 10), nil)
	}
	appends(t, d, "b", "")
	l := d.Names()
	for i, name := range l {
		copy(unsafe.Slice(unsafe.StringData(name), len(name)), "x")
		l[i] = "y"
	}
	if l := d.Names(); !slices.Equal(l, []string{"a", "b"}) {
		t.Errorf("Names: %q", l)
	}
	reads(t, d, "a", "1234567890")
	reads(t, d, "b", "")
}

// alphabet is calls of a few kinds, for all their sequences.
var alphabet = []called{
	callAppend("a", "12"), callAppend("a", ""), callAppend("b", "345"), callAppend("B", "6"),
	callSync("a"), callSync("b"),
	callTruncate("a", 0), callTruncate("a", 1), callTruncate("b", 3),
	callRename("a", "b"), callRename("b", "a"), callRename("a", "a"), callRename("a", ""),
	callRemove("a"), callRemove("b"),
	callCut(0), callCut(1), callCut(-1),
	callPower(0), callPower(1), callPower(-1),
}

// Every sequence of a few calls is answered as the oracle says, and leaves a disk that stands so.
func TestAllShort(t *testing.T) {
	depth := 4
	if testing.Short() {
		depth = 3
	}
	var descend func(d *disk.Disk, o *oracle, left int, path string)
	descend = func(d *disk.Disk, o *oracle, left int, path string) {
		for _, c := range alphabet {
			d, o := d.Clone(), o.clone()
			does(t, d, o, c, path)
			path := path + ", " + c.what
			stands(t, d, o, path)
			if left > 1 {
				descend(d, o, left-1, path)
			} else {
				standsWithin(t, d, o, path)
			}
		}
	}
	descend(fresh(t, 8), &oracle{room: 8}, depth, "New(8)")
}

// byChance is a call with arguments that are mostly of use.
func byChance(r *rand.Rand) called {
	names := []string{"a", "b", "c", "log", "snap", "snap.new", strings.Repeat("z", 32), "", "A", strings.Repeat("z", 33)}
	name := func() string { return names[int(float64(len(names))*r.Float64()*r.Float64())] }
	switch k := r.Intn(100); {
	case k < 45:
		b := make([]byte, r.Intn(r.Intn(60)+1))
		r.Read(b)
		return callAppend(name(), string(b))
	case k < 65:
		return callSync(name())
	case k < 73:
		return callTruncate(name(), r.Intn(80)-2)
	case k < 81:
		return callRename(name(), name())
	case k < 85:
		return callRemove(name())
	case k < 92:
		return callCut(r.Intn(12) - 1)
	}
	return callPower(r.Intn(100) - 10)
}

func TestLongRuns(t *testing.T) {
	for seed := range int64(60) {
		r := rand.New(rand.NewSource(seed))
		room := r.Intn(400)
		d, o := fresh(t, room), &oracle{room: room}
		for i := range 400 {
			c := byChance(r)
			path := fmt.Sprintf("seed %d, %d calls, %s", seed, i, c.what)
			does(t, d, o, c, path)
			stands(t, d, o, path)
			if i%20 == 0 {
				standsWithin(t, d, o, path)
				d = d.Clone()
			}
		}
	}
}

// script is what a program may do that writes a file anew: it stops at the first error, and tells how far it came.
func script(d *disk.Disk) int {
	for i, do := range []func() error{
		func() error { return d.Append("log", []byte("first")) },
		func() error { return d.Sync("log") },
		func() error { return d.Append("log", []byte("second")) },
		func() error { return d.Sync("log") },
		func() error { return d.Append("snap.new", []byte("whole")) },
		func() error { return d.Sync("snap.new") },
		func() error { return d.Rename("snap.new", "snap") },
		func() error { return d.Truncate("log", 0) },
		func() error { return d.Append("log", []byte("third")) },
		func() error { return d.Sync("log") },
		func() error { return d.Remove("snap") },
	} {
		if err := do(); err != nil {
			return i
		}
	}
	return 11
}

// P10.8: wherever the power goes in the script, what was synced is there, and of what wasn't a first part.
func TestScriptCutAnywhere(t *testing.T) {
	synced := []string{"", "", "first", "first", "firstsecond", "firstsecond", "firstsecond", "firstsecond", "", "", "third", "third"}
	appended := []string{"first", "first", "firstsecond", "firstsecond", "firstsecond", "firstsecond", "firstsecond", "firstsecond", "third", "third", "third", "third"}
	snap := []string{"", "", "", "", "", "", "", "whole", "whole", "whole", "whole", ""}
	for budget := range 12 {
		for keep := -1; keep < 14; keep++ {
			d := fresh(t, 30)
			answers(t, "Cut", d.Cut(budget), nil)
			done := script(d)
			if done != min(budget, 11) || d.Steps() != done || d.On() != (budget == 11) {
				t.Fatalf("budget %d: %d, %d, %v", budget, done, d.Steps(), d.On())
			}
			d.Power(keep)
			b, err := d.Read("log")
			if err != nil || !strings.HasPrefix(string(b), synced[done]) || !strings.HasPrefix(appended[done], string(b)) {
				t.Fatalf("budget %d, Power(%d): log is %q, %v", budget, keep, b, err)
			}
			if snap[done] != "" {
				reads(t, d, "snap", snap[done])
			} else {
				readFails(t, d, "snap", api.ErrNone)
			}
			if d.Used() > 30 {
				t.Fatalf("budget %d, Power(%d): Used %d", budget, keep, d.Used())
			}
		}
	}
}

// R4: two disks to which the same is done stand alike.
func TestTwice(t *testing.T) {
	run := func() *disk.Disk {
		d := fresh(t, 300)
		r := rand.New(rand.NewSource(7))
		for range 1000 {
			byChance(r).disk(d)
		}
		d.Power(3)
		return d
	}
	a := run()
	for range 20 {
		b := run()
		if !slices.Equal(a.Names(), b.Names()) || a.Used() != b.Used() || a.Steps() != b.Steps() {
			t.Fatalf("%q, %q", a.Names(), b.Names())
		}
		for _, name := range a.Names() {
			whole, _ := a.Read(name)
			reads(t, b, name, string(whole))
		}
	}
}
