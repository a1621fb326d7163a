package annal_test

import (
	"bytes"
	"crypto/hmac"
	"crypto/sha256"
	"encoding/hex"
	"fmt"
	"testing"

	"annal/annal"
	"annal/api"
)

// pattern makes n bytes, no two neighbouring blocks alike, so that a block that is left out or taken twice shows.
func pattern(n int) []byte {
	b := make([]byte, n)
	for i := range b {
		b[i] = byte(i*7 + i/64*13 + n)
	}
	return b
}

// wantTag asks the library, which the program itself may not.
func wantTag(key []byte, data []byte) api.Digest {
	h := hmac.New(sha256.New, key)
	h.Write(data)
	return api.Digest(h.Sum(nil))
}

func checkDigits(t *testing.T, what string, got api.Digest, want string) {
	t.Helper()
	if s := hex.EncodeToString(got[:]); s != want {
		t.Errorf("P3: %s = %s, want %s", what, s, want)
	}
}

func TestHashOfKnownTexts(t *testing.T) {
	for _, c := range []struct{ text, want string }{
		{"", "e3b0c44298fc1c149afbf4c8996fb92427ae41e4649b934ca495991b7852b855"},
		{"abc", "ba7816bf8f01cfea414140de5dae2223b00361a396177a9cb410ff61f20015ad"},
		{"abcdbcdecdefdefgefghfghighijhijkijkljklmklmnlmnomnopnopq", "248d6a61d20638b8e5c026930c3e6039a33ce45964ff2167f6ecedd419db06c1"},
		{"abcdefghbcdefghicdefghijdefghijkefghijklfghijklmghijklmnhijklmnoijklmnopjklmnopqklmnopqrlmnopqrsmnopqrstnopqrstu", "cf5b16a778af8380036ce59e7b0492370b249b11e8f07a51afac45037afee9d1"},
		{"The quick brown fox jumps over the lazy dog", "d7a8fbb307d7809469ca9abcb0082e4f8d5651e46d3cdb762d02d0bf37c9e592"},
	} {
		checkDigits(t, fmt.Sprintf("Hash of %q", c.text), annal.Hash([]byte(c.text)), c.want)
	}
	million := bytes.Repeat([]byte("a"), 1000000)
	checkDigits(t, "Hash of a million a", annal.Hash(million), "cdc76e5c9914fb9281a1c7e284d73e67f1809a48a497200e046d39ccc7112cd0")
}

// Every length through five blocks: so each end of a block, and each end of the room ahead of the length, is among them.
func TestHashAtEveryLength(t *testing.T) {
	for n := range 5*64 + 2 {
		b := pattern(n)
		if got, want := annal.Hash(b), api.Digest(sha256.Sum256(b)); got != want {
			t.Errorf("P3: Hash of %d bytes = %x, want %x", n, got, want)
		}
	}
}

func TestHashOfLongBytes(t *testing.T) {
	for _, n := range []int{8191, 8192, 8193, 65535, 65536, 1<<21 - 9, 1 << 21} {
		b := pattern(n)
		if got, want := annal.Hash(b), api.Digest(sha256.Sum256(b)); got != want {
			t.Errorf("P3: Hash of %d bytes = %x, want %x", n, got, want)
		}
	}
}

// The length is told in bits: only from 2^29 bytes on do they fill more than 32 of them.
func TestHashOfMoreBitsThanAWordHolds(t *testing.T) {
	if testing.Short() {
		t.Skip("takes some seconds and half a gigabyte")
	}
	b := make([]byte, 1<<29+1)
	b[1<<29] = 7
	if got, want := annal.Hash(b), api.Digest(sha256.Sum256(b)); got != want {
		t.Errorf("P3: Hash of %d bytes = %x, want %x", len(b), got, want)
	}
}

func TestHashOfNothing(t *testing.T) {
	want := api.Digest(sha256.Sum256(nil))
	if got := annal.Hash(nil); got != want {
		t.Errorf("P3: Hash of nil = %x, want %x", got, want)
	}
	if got := annal.Hash([]byte{}); got != want {
		t.Errorf("P3: Hash of no bytes = %x, want %x", got, want)
	}
}

// RFC 4231, 4.2 to 4.5, 4.7 and 4.8, and the tag of nothing by no key.
func TestTagOfKnownTexts(t *testing.T) {
	counted := make([]byte, 25)
	for i := range counted {
		counted[i] = byte(i + 1)
	}
	long := bytes.Repeat([]byte{0xaa}, 131)
	for _, c := range []struct {
		key  []byte
		data string
		want string
	}{
		{bytes.Repeat([]byte{0x0b}, 20), "Hi There", "b0344c61d8db38535ca8afceaf0bf12b881dc200c9833da726e9376c2e32cff7"},
		{[]byte("Jefe"), "what do ya want for nothing?", "5bdcc146bf60754e6a042426089575c75a003f089d2739839dec58b964ec3843"},
		{long[:20], string(bytes.Repeat([]byte{0xdd}, 50)), "773ea91e36800e46854db8ebd09181a72959098b3ef8c122d9635514ced565fe"},
		{counted, string(bytes.Repeat([]byte{0xcd}, 50)), "82558a389a443c0ea4cc819899f2083a85f0faa3e578f8077a2e3ff46729665b"},
		{long, "Test Using Larger Than Block-Size Key - Hash Key First", "60e431591ee0b67f0d8a26aacbf5b77f8e0bc6213728c5140546040f0ee37f54"},
		{long, "This is a test using a larger than block-size key and a larger than block-size data. The key needs to be hashed before being used by the HMAC algorithm.", "9b09ffa71b942fcb27635fbcd5b0e944bfdc63644f0713938a7f51535c3a35e2"},
		{nil, "", "b613679a0814d9ec772f95d778c35fc5ff1697c493715653c6c712144292c5ad"},
	} {
		checkDigits(t, fmt.Sprintf("Tag of %q", c.data), annal.Tag(c.key, []byte(c.data)), c.want)
	}
}

// Keys shorter than, as long as and longer than a block, each with data around the ends of a block.
func TestTagAtEveryLength(t *testing.T) {
	for k := range 3*64 + 2 {
		for _, n := range []int{0, 1, 31, 32, 55, 56, 63, 64, 65, 119, 120, 128, 300} {
			key, data := pattern(k), pattern(n)
			if got, want := annal.Tag(key, data), wantTag(key, data); got != want {
				t.Errorf("P3: Tag of %d bytes by a key of %d = %x, want %x", n, k, got, want)
			}
		}
	}
	for n := range 3*64 + 2 {
		key, data := pattern(40), pattern(n)
		if got, want := annal.Tag(key, data), wantTag(key, data); got != want {
			t.Errorf("P3: Tag of %d bytes = %x, want %x", n, got, want)
		}
	}
}

// The log's own limits are not those of Tag: its key and its data may be of any length.
func TestTagBeyondTheLimitsOfALog(t *testing.T) {
	for _, k := range []int{api.MaxKey, api.MaxKey + 1, 5000} {
		for _, n := range []int{api.MaxEntry + 1, 100000} {
			key, data := pattern(k), pattern(n)
			if got, want := annal.Tag(key, data), wantTag(key, data); got != want {
				t.Errorf("P3: Tag of %d bytes by a key of %d = %x, want %x", n, k, got, want)
			}
		}
	}
}

func TestTagOfNothing(t *testing.T) {
	want := wantTag(nil, nil)
	for _, key := range [][]byte{nil, {}} {
		for _, data := range [][]byte{nil, {}} {
			if got := annal.Tag(key, data); got != want {
				t.Errorf("P3: Tag(%#v, %#v) = %x, want %x", key, data, got, want)
			}
		}
	}
}

// A key up to a block long counts as if noughts stood behind it, and a longer one as its hash does.
func TestTagKeyIsFilledOrHashed(t *testing.T) {
	data := []byte("data")
	short := []byte("key")
	filled := append(bytes.Clone(short), make([]byte, 61)...)
	if annal.Tag(short, data) != annal.Tag(filled, data) {
		t.Errorf("P3: a short key is not filled with noughts")
	}
	long := pattern(65)
	hash := annal.Hash(long)
	if annal.Tag(long, data) != annal.Tag(hash[:], data) {
		t.Errorf("P3: a long key does not count as its hash")
	}
	whole := pattern(64)
	hash = annal.Hash(whole)
	if annal.Tag(whole, data) == annal.Tag(hash[:], data) {
		t.Errorf("P3: a key as long as a block counts as its hash")
	}
}
