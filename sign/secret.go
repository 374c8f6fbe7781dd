package sign

import (
	"covey/curve"
	"covey/hash"
)

// secret is what a seed stands for: the number that its key tells of, and the mark from which the numbers for its texts come.
type secret struct {
	number, mark [32]byte
}

func secretOf(seed [32]byte) secret {
	h := hash.Sum512(seed[:])
	s := secret{number: [32]byte(h[:32]), mark: [32]byte(h[32:])}
	s.number[0] &= 0xf8
	s.number[31] = s.number[31]&0x3f | 0x40
	return s
}

func (s secret) key() [32]byte { return timesBase(s.number) }

// numberFor is the number that serves for one text alone: from two answers of one number the secret could be reckoned.
func (s secret) numberFor(text []byte) [32]byte { return hashed(s.mark[:], text) }

func (s secret) answer(challenge, once [32]byte) [32]byte {
	return curve.MulAdd(challenge, s.number, once)
}
