package wal

const (
	numberBytes = 4
	headBytes   = 2 * numberBytes // a frame's length and its check
)

const (
	firstCheck = 1<<32 - 1
	checkMask  = 0xedb88320
)

// stir takes bytes into a check that is under way, so that what stands apart can be checked as if it stood together.
func stir(c uint32, b []byte) uint32 {
	for _, x := range b {
		c ^= uint32(x)
		for range 8 {
			low := c & 1
			c >>= 1
			if low == 1 {
				c ^= checkMask
			}
		}
	}
	return c
}

// checkOf is a frame's check: that of its length's bytes and of its record's.
func checkOf(length, record []byte) uint32 {
	return ^stir(stir(firstCheck, length), record)
}

// firstRecord is that of the frame that b begins with, if it is a whole one.
func firstRecord(b []byte) ([]byte, bool) {
	if len(b) < headBytes {
		return nil, false
	}
	length, check := numberOf(b), numberOf(b[numberBytes:])
	rest := b[headBytes:]
	// The bound first: a length above it might be below 0 as an int of 32 bits.
	if length > MaxRecord || int(length) > len(rest) {
		return nil, false
	}
	record := rest[:length]
	return record, check == checkOf(b[:numberBytes], record)
}

func appendNumber(b []byte, n uint32) []byte {
	return append(b, byte(n), byte(n>>8), byte(n>>16), byte(n>>24))
}

func numberOf(b []byte) uint32 {
	return uint32(b[0]) | uint32(b[1])<<8 | uint32(b[2])<<16 | uint32(b[3])<<24
}
