package annal_test

import (
	"bytes"
	"math"
	"slices"
	"testing"

	"annal/annal"
	"annal/api"
)

func checkSigned(t *testing.T, what string, key []byte, h api.Head, want bool) {
	t.Helper()
	if got := annal.Signed(key, h); got != want {
		t.Errorf("P7: %s: Signed(a key of %d bytes, %x) = %v, want %v", what, len(key), h, got, want)
	}
}

func TestSignedOfEveryHead(t *testing.T) {
	entries := sample(api.MaxEntries)
	for _, k := range []int{0, 1, 63, 64, 65, api.MaxKey} {
		key := pattern(k)
		l := newLog(t, key)
		for n, entry := range entries {
			checkSigned(t, "a log's head", key, l.Head(), true)
			add(t, l, entry, n)
		}
		checkSigned(t, "a full log's head", key, l.Head(), true)
	}
}

// otherKeys: keys that are nearly this one.
func otherKeys(key []byte) [][]byte {
	list := [][]byte{append(bytes.Clone(key), 1), []byte("another")}
	for i := range key {
		other := bytes.Clone(key)
		other[i] ^= 0x80
		list = append(list, other)
	}
	if len(key) > 0 {
		list = append(list, key[1:], key[:len(key)-1], nil)
	}
	return list
}

// Keys that no log takes are among them. A key that ends in noughts has the tags of a shorter one, so none does here.
func TestSignedByKeysOfAnyLength(t *testing.T) {
	for _, k := range []int{0, 1, 2, 31, 32, 33, 63, 64, 65, 66, 99, 100, 101, 102, 127, 128, 129, 300, 301, 1000} {
		key := bytes.Repeat([]byte{1}, k)
		for i := range key {
			key[i] += byte(i % 100)
		}
		h := wantHead(key, 77, digests(1)[0])
		checkSigned(t, "its own key", key, h, true)
		for _, other := range otherKeys(key) {
			checkSigned(t, "another key", other, h, false)
		}
	}
}

func TestSignedWithoutAKey(t *testing.T) {
	h := wantHead(nil, 3, digests(1)[0])
	checkSigned(t, "nil", nil, h, true)
	checkSigned(t, "no bytes", []byte{}, h, true)
	checkSigned(t, "a key", []byte("key"), h, false)
}

func TestSignedAtEverySize(t *testing.T) {
	key, root := []byte("key"), digests(1)[0]
	for _, size := range slices.Concat(turns, giants) {
		h := wantHead(key, size, root)
		checkSigned(t, "a size", key, h, true)
		for bit := range 64 {
			other := h
			other.Size ^= 1 << bit
			checkSigned(t, "another size", key, other, false)
		}
	}
}

// No tag makes a size below 0 a signed one: neither that of the eight bytes it is kept in, nor that of a size that could be meant.
func TestSignedOfSizesBelowNought(t *testing.T) {
	key, root := []byte("key"), digests(1)[0]
	for _, size := range []int{-1, -2, -5, -64, -65, -1 << 32, math.MinInt + 1, math.MinInt} {
		for _, meant := range []int{size, -size, size & math.MaxInt, ^size, 0} {
			h := wantHead(key, meant, root)
			h.Size = size
			checkSigned(t, "a size below 0", key, h, false)
		}
	}
}

func TestSignedOfAnotherRootOrTag(t *testing.T) {
	key := []byte("key")
	h := logOf(t, key, sample(5)).Head()
	for bit := range 256 {
		root, tag := h, h
		root.Root = turned(h.Root, bit)
		tag.Tag = turned(h.Tag, bit)
		checkSigned(t, "another root", key, root, false)
		checkSigned(t, "another tag", key, tag, false)
	}
	checkSigned(t, "no tag", key, api.Head{Size: h.Size, Root: h.Root}, false)
	checkSigned(t, "root and tag exchanged", key, api.Head{Size: h.Size, Root: h.Tag, Tag: h.Root}, false)
	checkSigned(t, "nothing", key, api.Head{}, false)
	checkSigned(t, "a root of noughts", key, wantHead(key, 0, api.Digest{}), true)
}
