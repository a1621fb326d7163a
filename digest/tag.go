package digest

import "annal/api"

const (
	innerMask = 0x36
	outerMask = 0x5c
)

// Tag tells the tag of bytes by a key.
func Tag(key []byte, data []byte) api.Digest {
	k := keyBlock(key)
	inner := start.take(k.masked(innerMask)).finish(blockSize, data)
	return start.take(k.masked(outerMask)).finish(blockSize, inner[:])
}

// keyBlock makes a key of any length one block long: a longer one is told by its hash.
func keyBlock(key []byte) block {
	if len(key) > blockSize {
		d := Hash(key)
		return firstBlock(d[:])
	}
	return firstBlock(key)
}

func (b block) masked(mask byte) block {
	for i := range b {
		b[i] ^= mask
	}
	return b
}
