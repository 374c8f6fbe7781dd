package kv_test

import (
	"fmt"
	"math/rand"
	"testing"

	"covey/api"
	"covey/disk"
	"covey/kv"
)

// A deed is a batch, or, where that is nil, a Compact.
type deed []api.Write

func (l deed) does(s *kv.Store) error {
	if l == nil {
		return s.Compact()
	}
	return s.Apply(l)
}

// behind is the model behind a deed that was done.
func (l deed) behind(m model) model {
	if l == nil {
		return m
	}
	return m.with(l)
}

func script() []deed {
	return []deed{
		batch(set("a", "1"), set("b", "2")),
		batch(drop("a"), set("c", "33")),
		nil,
		batch(set("a", ""), set("b", "4")),
		nil,
		nil,
		batch(drop("none")),
		batch(drop("c"), drop("b")),
	}
}

// run does deeds up to the first that the power cuts off: the model behind those answered nil, and behind that one, too.
func run(t *testing.T, s *kv.Store, m model, deeds []deed) (done, all model, left []deed) {
	t.Helper()
	for i, l := range deeds {
		err := l.does(s)
		if err == api.ErrCut {
			return m, l.behind(m), deeds[i+1:]
		}
		answers(t, "a deed", err, nil)
		m = l.behind(m)
	}
	return m, m, nil
}

// finds opens a disk that has had a cut: it holds what was answered, and of what was under way all or nothing.
func finds(t *testing.T, what string, d *disk.Disk, done, all model) (*kv.Store, model) {
	t.Helper()
	s := opens(t, d)
	m := done
	if s.Count() == all.count {
		m = all
	}
	tells(t, what, s, m)
	once := look(d)
	tells(t, what+", opened twice", opens(t, d), m)
	if look(d) != once {
		t.Fatalf("%s: opened twice %s; not %s", what, look(d), once)
	}
	return s, m
}

// P12.6: a cut at every step, with each part of what wasn't synced.
func TestCuts(t *testing.T) {
	d := fresh(t, room)
	run(t, opens(t, d), model{}, script())
	steps := d.Steps()
	some, none := 0, 0
	for n := range steps + 1 {
		for keep := range 60 {
			d := fresh(t, room)
			s := opens(t, d)
			answers(t, "Cut", d.Cut(n), nil)
			done, all, left := run(t, s, model{}, script())
			if d.On() != (n == steps) {
				t.Fatalf("a cut at step %d of %d: On is %v", n, steps, d.On())
			}
			d.Power(keep)
			what := fmt.Sprintf("behind a cut at step %d, with %d bytes kept", n, keep)
			s, m := finds(t, what, d, done, all)
			if done.count != all.count && m.count == all.count {
				some++
			} else if done.count != all.count {
				none++
			}
			m, _, _ = run(t, s, m, left)
			tells(t, what+", gone on with", opens(t, d), m)
		}
	}
	if some == 0 || none == 0 {
		t.Errorf("what was under way was done %d times, and not done %d times", some, none)
	}
}

// P12.6: a second cut at every step, also of those that Open does.
func TestTwoCuts(t *testing.T) {
	d := fresh(t, room)
	run(t, opens(t, d), model{}, script())
	steps := d.Steps()
	for n := range steps {
		for _, keep := range []int{0, 1, 9, 30, 41} {
			for second := range steps - n + 3 {
				d := fresh(t, room)
				s := opens(t, d)
				answers(t, "Cut", d.Cut(n), nil)
				done, all, left := run(t, s, model{}, script())
				d.Power(keep)
				what := fmt.Sprintf("behind cuts at step %d and %d more, with %d bytes kept", n, second, keep)
				answers(t, "Cut", d.Cut(second), nil)
				s, err := kv.Open(d)
				if err == nil {
					if s.Count() == all.count {
						done = all
					}
					tells(t, what, s, done)
					done, all, left = run(t, s, done, left)
				} else {
					answers(t, "Open", err, api.ErrCut)
				}
				d.Power(keep + 7)
				s, m := finds(t, what, d, done, all)
				m, _, _ = run(t, s, m, left)
				tells(t, what+", gone on with", opens(t, d), m)
			}
		}
	}
}

// P12.6: a store that goes on behind a cut without being opened anew: what it answers nil lasts, too.
func TestCutsGoneOnWith(t *testing.T) {
	d := fresh(t, room)
	run(t, opens(t, d), model{}, script())
	for n := range d.Steps() {
		for keep := range 60 {
			d := fresh(t, room)
			s := opens(t, d)
			answers(t, "Cut", d.Cut(n), nil)
			m, _, left := run(t, s, model{}, script())
			what := fmt.Sprintf("a cut at step %d, with %d bytes kept", n, keep)
			tells(t, what, s, m)
			answers(t, "Apply without power", s.Apply(batch(set("x", ""))), api.ErrCut)
			answers(t, "Compact without power", s.Compact(), api.ErrCut)
			d.Power(keep)
			m, _, _ = run(t, s, m, left)
			tells(t, what+", gone on with", s, m)
			l := batch(set("last", "of all"))
			answers(t, "Apply", s.Apply(l), nil)
			tells(t, what+", gone on with and opened", opens(t, d), m.with(l))
		}
	}
}

// P12.6: the same of a store that was opened of a log, with a torn end or without.
func TestCutsGoneOnWithALog(t *testing.T) {
	first, second := batch(set("a", "1")), batch(set("b", "22"), drop("a"))
	for _, torn := range []string{"", "torn", "torn, and with more bytes than a batch has"} {
		for n := range 3 {
			for keep := range 40 {
				d := files{log: append(frame(batchOf(1, first...)), torn...)}.lay(t)
				s := opens(t, d)
				answers(t, "Cut", d.Cut(n), nil)
				if n == 2 {
					answers(t, "Apply", s.Apply(second), nil)
					answers(t, "Apply", s.Apply(first), api.ErrCut)
				} else {
					answers(t, "Apply", s.Apply(second), api.ErrCut)
				}
				d.Power(keep)
				m := model{}.with(first).with(second)
				if n == 2 {
					m = m.with(second)
				}
				answers(t, "Apply behind a cut", s.Apply(second), nil)
				tells(t, "behind a cut", s, m)
				tells(t, "behind a cut, opened anew", opens(t, d), m)
			}
		}
	}
}

// P12.6: what was cut off, and is not wanted any more, takes no room from the next batch.
func TestCutsTakeNoRoom(t *testing.T) {
	l := batch(set("a", "1"))
	whole := len(frame(batchOf(1, l...)))
	for keep := range whole + 1 {
		d := fresh(t, whole)
		s := opens(t, d)
		answers(t, "Cut", d.Cut(0), nil)
		answers(t, "Apply", s.Apply(l), api.ErrCut)
		d.Power(keep)
		answers(t, "Apply of more than there is room for", s.Apply(batch(set("a", "12"))), api.ErrFull)
		answers(t, "Apply", s.Apply(l), nil)
		tells(t, "behind both", opens(t, d), model{}.with(l))
	}
}

// P12.6, T3: long runs by chance, with cuts, on disks that may be full.
func TestCutsByChance(t *testing.T) {
	r := rand.New(rand.NewSource(3))
	cuts, fulls := 0, 0
	for range 300 {
		d := fresh(t, 200+r.Intn(2000))
		s := opens(t, d)
		var m model
		for range 60 {
			if r.Intn(3) == 0 {
				answers(t, "Cut", d.Cut(r.Intn(9)), nil)
			}
			var l deed
			if r.Intn(5) > 0 {
				l = chanceBatch(r)
			}
			before := d.Steps()
			switch err := l.does(s); err {
			case nil:
				m = l.behind(m)
			case api.ErrFull:
				fulls++
				if d.Steps() != before {
					t.Fatalf("a deed without room has done %d steps", d.Steps()-before)
				}
			default:
				answers(t, "a deed", err, api.ErrCut)
				cuts++
				d.Power(r.Intn(70))
				s, m = finds(t, "behind a cut", d, m, l.behind(m))
			}
			tells(t, "by chance", s, m)
			if r.Intn(8) == 0 {
				d.Power(0)
				s = opens(t, d)
				tells(t, "opened anew", s, m)
			}
		}
	}
	if cuts < 300 || fulls < 300 {
		t.Errorf("%d cuts, %d without room", cuts, fulls)
	}
}
