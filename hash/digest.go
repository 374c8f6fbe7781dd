package hash

// word is what a digest reckons with: its sums are modulo 2 to the width.
type word interface {
	uint32 | uint64
}

// shape is what the two digests don't share.
type shape struct {
	bits           uint // of a word
	rounds         int  // of a block
	small0, small1 [3]uint
	great0, great1 [3]uint
}

const (
	blockWords   = 16
	longestBlock = blockWords * 8
)

func shapeOf(wide bool) shape {
	if wide {
		return shape{
			bits: 64, rounds: 80,
			small0: [3]uint{1, 8, 7}, small1: [3]uint{19, 61, 6},
			great0: [3]uint{28, 34, 39}, great1: [3]uint{14, 18, 41},
		}
	}
	return shape{
		bits: 32, rounds: 64,
		small0: [3]uint{7, 18, 3}, small1: [3]uint{17, 19, 10},
		great0: [3]uint{2, 13, 22}, great1: [3]uint{6, 11, 25},
	}
}

func (s shape) wordBytes() int {
	return int(s.bits / 8)
}

func (s shape) blockBytes() int {
	return blockWords * s.wordBytes()
}

// firstBits cuts the first bits of a root, of which the tables have 64, to a word.
func firstBits[W word](root uint64, s shape) W {
	return W(root >> (64 - s.bits))
}

// firstWords are the words of a text of which nothing was taken yet.
func firstWords[W word](s shape) [8]W {
	var words [8]W
	for i := range words {
		words[i] = firstBits[W](squareRoots[i], s)
	}
	return words
}

// digest is that of a text of length bytes: its blocks ahead of text led to those words, text is all behind them.
func digest[W word](words [8]W, text []byte, length uint64, s shape) []byte {
	whole := len(text) - len(text)%s.blockBytes()
	words = takeBlocks(words, text[:whole], s)
	words = takeBlocks(words, filledUp[W](text[whole:], length, s), s)
	sum := make([]byte, 0, len(words)*s.wordBytes())
	for _, x := range words {
		sum = appendWord(sum, x, s)
	}
	return sum
}

// filledUp is the end of a text of length bytes, filled up to one block or two.
func filledUp[W word](rest []byte, length uint64, s shape) []byte {
	block := s.blockBytes()
	end := make([]byte, 0, 2*block)
	end = append(end, rest...)
	end = append(end, 0x80)
	for len(end)%block != block-2*s.wordBytes() {
		end = append(end, 0)
	}
	end = appendWord(end, W(length>>(s.bits-3)), s)
	return appendWord(end, W(length<<3), s)
}

// take takes b behind the bytes that block holds, and leaves in block what is behind the last whole one.
func take[W word](words [8]W, block []byte, held int, b []byte, s shape) [8]W {
	n := copy(block[held:], b)
	if held+n < len(block) {
		return words
	}
	words = takeBlock(words, block, s)
	b = b[n:]
	whole := len(b) - len(b)%len(block)
	words = takeBlocks(words, b[:whole], s)
	copy(block, b[whole:])
	return words
}

// takeBlocks takes bytes that are a whole number of blocks.
func takeBlocks[W word](words [8]W, b []byte, s shape) [8]W {
	for size := s.blockBytes(); len(b) > 0; b = b[size:] {
		words = takeBlock(words, b[:size], s)
	}
	return words
}

// takeBlock is what a block makes of the words.
func takeBlock[W word](words [8]W, block []byte, s shape) [8]W {
	w := spread[W](block, s)
	a, b, c, d, e, f, g, h := words[0], words[1], words[2], words[3], words[4], words[5], words[6], words[7]
	for i := range s.rounds {
		t := h + great(e, s.great1, s) + (e&f | ^e&g) + firstBits[W](cubeRoots[i], s) + w[i]
		u := great(a, s.great0, s) + (a&b | a&c | b&c)
		a, b, c, d, e, f, g, h = t+u, a, b, c, d+t, e, f, g
	}
	for i, x := range [8]W{a, b, c, d, e, f, g, h} {
		words[i] += x
	}
	return words
}

// spread is the words of a block, and those made of them: one for each round.
func spread[W word](block []byte, s shape) [80]W {
	var w [80]W
	for i := range blockWords {
		w[i] = wordAt[W](block, i, s)
	}
	for i := blockWords; i < s.rounds; i++ {
		w[i] = small(w[i-2], s.small1, s) + w[i-7] + small(w[i-15], s.small0, s) + w[i-16]
	}
	return w
}

// small turns by two of the places and shifts by the third.
func small[W word](x W, places [3]uint, s shape) W {
	return turn(x, places[0], s) ^ turn(x, places[1], s) ^ x>>places[2]
}

// great turns by all three of the places.
func great[W word](x W, places [3]uint, s shape) W {
	return turn(x, places[0], s) ^ turn(x, places[1], s) ^ turn(x, places[2], s)
}

func turn[W word](x W, places uint, s shape) W {
	return x>>places | x<<(s.bits-places)
}

func wordAt[W word](block []byte, i int, s shape) W {
	var x W
	size := s.wordBytes()
	for _, b := range block[i*size : (i+1)*size] {
		x = x<<8 | W(b)
	}
	return x
}

func appendWord[W word](b []byte, x W, s shape) []byte {
	for i := range s.wordBytes() {
		b = append(b, byte(x>>(s.bits-8-8*uint(i))))
	}
	return b
}
