package annal_test

import (
	"bytes"
	"crypto/sha256"
	"testing"

	"annal/annal"
	"annal/api"
)

const room = 160 // more than two blocks: all that closing a hash could write behind its bytes

// edges: lengths around the ends of one and of two blocks, and of the room ahead of the length.
var edges = []int{0, 1, 31, 32, 33, 55, 56, 57, 63, 64, 65, 100, 119, 120, 127, 128, 129, 300}

// guarded is a piece of memory with bytes ahead of and behind the piece that is handed in.
type guarded struct {
	all    []byte
	before []byte
	n      int
}

func guard(n int) guarded {
	all := pattern(room + n + room)
	return guarded{all: all, before: bytes.Clone(all), n: n}
}

// piece has all that stands behind it as spare room.
func (g guarded) piece() []byte { return g.all[room : room+g.n] }

func (g guarded) check(t *testing.T, what string) {
	t.Helper()
	if !bytes.Equal(g.all, g.before) {
		t.Errorf("P2: %s of %d bytes wrote into what was handed in, or around it", what, g.n)
	}
}

func TestHashWritesNothing(t *testing.T) {
	for _, n := range edges {
		g := guard(n)
		got := annal.Hash(g.piece())
		g.check(t, "Hash")
		if want := api.Digest(sha256.Sum256(g.piece())); got != want {
			t.Errorf("P2: Hash of %d bytes with spare room = %x, want %x", n, got, want)
		}
	}
}

func TestTagWritesNothing(t *testing.T) {
	for _, k := range edges {
		for _, n := range edges {
			key, data := guard(k), guard(n)
			got := annal.Tag(key.piece(), data.piece())
			key.check(t, "Tag, the key")
			data.check(t, "Tag, the data")
			if want := wantTag(key.piece(), data.piece()); got != want {
				t.Errorf("P2: Tag of %d bytes by a key of %d with spare room = %x, want %x", n, k, got, want)
			}
		}
	}
}

// The key and the data may be one memory: the spare room of the one is then the other.
func TestTagOfOverlappingMemory(t *testing.T) {
	for _, k := range edges {
		for _, from := range []int{0, k / 2, k} {
			all := pattern(k + 200)
			key, data := all[:k], all[from:]
			want := wantTag(bytes.Clone(key), bytes.Clone(data))
			if got := annal.Tag(key, data); got != want {
				t.Errorf("P2: Tag by a key of %d bytes, data from %d on in one memory = %x, want %x", k, from, got, want)
			}
			if !bytes.Equal(all, pattern(k+200)) {
				t.Errorf("P2: Tag by a key of %d bytes, data from %d on, wrote into their memory", k, from)
			}
		}
	}
}

// An answer stays as it is when what was handed in changes, and the next answer tells the bytes as they are then.
func TestNothingIsKept(t *testing.T) {
	for _, n := range edges {
		data, key := pattern(n), pattern(n)
		hash, tag := annal.Hash(data), annal.Tag(key, data)
		wantHash, wantedTag := api.Digest(sha256.Sum256(data)), wantTag(key, data)
		for i := range n {
			data[i] ^= 0xff
			key[i] ^= 0x0f
		}
		if hash != wantHash || tag != wantedTag {
			t.Errorf("P2: an answer changed with the %d bytes it was told of", n)
		}
		if annal.Hash(data) != api.Digest(sha256.Sum256(data)) || annal.Tag(key, data) != wantTag(key, data) {
			t.Errorf("P2: %d bytes were kept: the answer is not that of the bytes as they are now", n)
		}
	}
}

func TestAnswersAreTheCallers(t *testing.T) {
	data, key := pattern(70), pattern(70)
	hash, tag := annal.Hash(data), annal.Tag(key, data)
	for i := range hash {
		hash[i] ^= 0xff
		tag[i] ^= 0xff
	}
	if annal.Hash(data) != api.Digest(sha256.Sum256(data)) {
		t.Errorf("P2: writing into a hash changed the next one")
	}
	if annal.Tag(key, data) != wantTag(key, data) {
		t.Errorf("P2: writing into a tag changed the next one")
	}
}
