// Package digest reckons the hash (SHA-256, FIPS 180-4) and the tag (HMAC by it, FIPS 198-1) of bytes.
package digest

import (
	"math/bits"

	"annal/api"
)

const (
	blockSize  = 64
	lengthSize = 8 // bytes at the end of the last block that tell the length
	wordSize   = 4
	roundCount = 64
)

// block is an array, so that to hand it on is to copy it: what is filled up or masked is never the caller's memory.
type block [blockSize]byte

// state is an array, so that the table it starts from stays as it is.
type state [8]uint32

// Hash tells the hash of bytes.
func Hash(data []byte) api.Digest {
	return start.finish(0, data)
}

// finish closes the hash with the last bytes. The state may have taken in whole blocks before: ahead is how many bytes those were, for the length at the end tells of them too.
func (s state) finish(ahead int, data []byte) api.Digest {
	length := 8 * (uint64(ahead) + uint64(len(data)))
	for len(data) >= blockSize {
		s = s.take(firstBlock(data))
		data = data[blockSize:]
	}
	last := firstBlock(data)
	last[len(data)] = 0x80
	if len(data) >= blockSize-lengthSize {
		// The length has no room behind the closing bit: it gets a block of its own.
		s = s.take(last)
		last = block{}
	}
	for i := range lengthSize {
		last[blockSize-1-i] = byte(length >> (8 * i))
	}
	return s.take(last).digest()
}

// firstBlock copies as many bytes as a block holds; noughts stand where there are no more.
func firstBlock(data []byte) block {
	var b block
	copy(b[:], data)
	return b
}

// take tells the state behind one more block.
func (s state) take(next block) state {
	w := schedule(next)
	a, b, c, d, e, f, g, h := s[0], s[1], s[2], s[3], s[4], s[5], s[6], s[7]
	for i := range roundCount {
		t1 := h + bigSigma1(e) + choose(e, f, g) + rounds[i] + w[i]
		t2 := bigSigma0(a) + majority(a, b, c)
		a, b, c, d, e, f, g, h = t1+t2, a, b, c, d+t1, e, f, g
	}
	return state{s[0] + a, s[1] + b, s[2] + c, s[3] + d, s[4] + e, s[5] + f, s[6] + g, s[7] + h}
}

// schedule spreads a block over the words of all rounds.
func schedule(b block) [roundCount]uint32 {
	var w [roundCount]uint32
	const given = blockSize / wordSize
	for i := range given {
		for _, c := range b[wordSize*i : wordSize*(i+1)] {
			w[i] = w[i]<<8 | uint32(c)
		}
	}
	for i := given; i < roundCount; i++ {
		w[i] = smallSigma1(w[i-2]) + w[i-7] + smallSigma0(w[i-15]) + w[i-16]
	}
	return w
}

// digest writes the state's words out, the highest byte of each first.
func (s state) digest() api.Digest {
	var d api.Digest
	for i := range d {
		d[i] = byte(s[i/wordSize] >> (8 * (wordSize - 1 - i%wordSize)))
	}
	return d
}

func choose(x, y, z uint32) uint32 { return x&y ^ ^x&z }

func majority(x, y, z uint32) uint32 { return x&y ^ x&z ^ y&z }

func right(x uint32, n int) uint32 { return bits.RotateLeft32(x, -n) }

func bigSigma0(x uint32) uint32 { return right(x, 2) ^ right(x, 13) ^ right(x, 22) }

func bigSigma1(x uint32) uint32 { return right(x, 6) ^ right(x, 11) ^ right(x, 25) }

func smallSigma0(x uint32) uint32 { return right(x, 7) ^ right(x, 18) ^ x>>3 }

func smallSigma1(x uint32) uint32 { return right(x, 17) ^ right(x, 19) ^ x>>10 }
