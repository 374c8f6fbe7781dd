package kv

import (
	"covey/api"
	"covey/disk"
	"covey/wal"
)

// maxCount is the greatest number that a snapshot may tell, so that those of the batches behind it are never too great.
const maxCount = 1 << 62

// readSnap takes what the snapshot tells, if there is one.
func (s *Store) readSnap() error {
	b, err := s.disk.Read(snapName)
	if err == api.ErrNone {
		return nil
	}
	if err != nil {
		return err
	}
	records, whole := wal.Scan(b)
	if len(records) != 1 || whole < len(b) || !s.takeSnap(records[0]) {
		return api.ErrBroken
	}
	return nil
}

// readLog does the batches that the snapshot doesn't have yet. It tells whether the log ends ahead of the snapshot.
func (s *Store) readLog() (bool, error) {
	b, err := s.disk.Read(logName)
	if err != nil && err != api.ErrNone {
		return false, err
	}
	records, whole := wal.Scan(b)
	s.size = whole
	last := uint64(0)
	for i, record := range records {
		number, l, ok := readBatch(record)
		if !ok || !follows(number, last, s.count, i == 0) {
			return false, api.ErrBroken
		}
		if number > s.count {
			s.do(l)
		}
		last = number
	}
	return len(records) > 0 && last < s.count, nil
}

// follows tells whether a batch may have that number: the first one of a log may be any that the snapshot has, too.
func follows(number, last, count uint64, first bool) bool {
	if first {
		return number >= 1 && number <= count+1
	}
	return number == last+1
}

// tidy takes away what earlier openings left.
func (s *Store) tidy(stale bool) error {
	if err := remove(s.disk, newName); err != nil {
		return err
	}
	log, _, err := wal.Open(s.disk, logName)
	if err != nil {
		return err
	}
	s.log = log
	if stale {
		// The next batch would not follow the log's last one.
		return s.clear()
	}
	return nil
}

// mend takes away what a cut left behind the batches that are done, since a batch behind it would not be found.
func (s *Store) mend() error {
	if !s.torn {
		return nil
	}
	err := s.disk.Truncate(logName, s.size)
	if err != nil && err != api.ErrNone {
		return err
	}
	s.torn = false
	return nil
}

// remove takes a file away, if there is one.
func remove(d *disk.Disk, name string) error {
	err := d.Remove(name)
	if err == api.ErrNone {
		return nil
	}
	return err
}
