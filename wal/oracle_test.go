package wal_test

import (
	"bytes"
	"encoding/binary"
	"hash/crc32"
	"io"
)

// The oracle takes checks, numbers and pieces from the library; it shares nothing with the program.

const bound = 2097152

// rawFrame is a frame with that length and that record, and the check that is right for both, whether the length is or not.
func rawFrame(length uint32, record []byte) []byte {
	h := crc32.NewIEEE()
	binary.Write(h, binary.LittleEndian, length)
	h.Write(record)
	var b bytes.Buffer
	binary.Write(&b, binary.LittleEndian, []uint32{length, h.Sum32()})
	b.Write(record)
	return b.Bytes()
}

func oracleFrame(record string) []byte { return rawFrame(uint32(len(record)), []byte(record)) }

func oracleFrames(records ...string) []byte {
	var b []byte
	for _, s := range records {
		b = append(b, oracleFrame(s)...)
	}
	return b
}

func oracleScan(b []byte) (records []string, taken int) {
	r := bytes.NewReader(b)
	for {
		var head struct{ Length, Check uint32 }
		if binary.Read(r, binary.LittleEndian, &head) != nil || head.Length > bound {
			return records, taken
		}
		record := make([]byte, head.Length)
		if _, err := io.ReadFull(r, record); err != nil {
			return records, taken
		}
		frame := oracleFrame(string(record))
		if binary.LittleEndian.Uint32(frame[4:]) != head.Check {
			return records, taken
		}
		records, taken = append(records, string(record)), taken+len(frame)
	}
}
