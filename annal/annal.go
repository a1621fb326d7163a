// Package annal: a log that can show what it has, and that it only grew: see DOC.md.
package annal

import (
	"bytes"
	"slices"

	"annal/api"
	"annal/digest"
	"annal/tree"
)

const sizeWidth = 8 // bytes of a size under the tag of a head

// Log keeps entries.
type Log struct {
	key     []byte
	entries [][]byte
}

// Hash tells the hash of bytes (P3).
func Hash(data []byte) api.Digest { return digest.Hash(data) }

// Tag tells the tag of bytes by a key (P3).
func Tag(key []byte, data []byte) api.Digest { return digest.Tag(key, data) }

// New makes a log (P4).
func New(key []byte) (*Log, api.Errno) {
	if len(key) > api.MaxKey {
		return nil, api.ErrLong
	}
	return &Log{key: bytes.Clone(key)}, api.OK
}

// Append adds an entry (P4).
func (l *Log) Append(entry []byte) (int, api.Errno) {
	if len(entry) > api.MaxEntry || len(l.entries) >= api.MaxEntries {
		return 0, api.ErrLong
	}
	number := len(l.entries)
	l.entries = append(l.entries, bytes.Clone(entry))
	return number, api.OK
}

// Root tells the root of the first n entries (P5).
func (l *Log) Root(n int) (api.Digest, api.Errno) {
	if n < 0 || n > len(l.entries) {
		return api.Digest{}, api.ErrArg
	}
	return tree.Root(l.entries[:n]), api.OK
}

// Head tells the log's head (P5).
func (l *Log) Head() api.Head {
	size, root := len(l.entries), tree.Root(l.entries)
	return api.Head{Size: size, Root: root, Tag: headTag(l.key, size, root)}
}

// headTag tells the tag that a head with this size (not below 0) and root has.
func headTag(key []byte, size int, root api.Digest) api.Digest {
	return digest.Tag(key, slices.Concat(highestFirst(uint64(size), sizeWidth), root[:]))
}

// highestFirst writes a number out as so many bytes.
func highestFirst(number uint64, width int) []byte {
	out := make([]byte, width)
	for i := range out {
		out[width-1-i] = byte(number >> (8 * i))
	}
	return out
}

// Path shows that an entry is there (P6).
func (l *Log) Path(i int, n int) ([]api.Digest, api.Errno) {
	if n > len(l.entries) || !isIn(i, n) {
		return nil, api.ErrArg
	}
	return tree.Path(l.entries[:n], i), api.OK
}

// Link shows that the log only grew (P6).
func (l *Log) Link(m int, n int) ([]api.Digest, api.Errno) {
	if n < 0 || n > len(l.entries) || m < 0 || m > n {
		return nil, api.ErrArg
	}
	return tree.Link(l.entries[:n], m), api.OK
}

// Signed looks at a head (P7).
func Signed(key []byte, h api.Head) bool {
	return h.Size >= 0 && h.Tag == headTag(key, h.Size, h.Root)
}

// Climb tells the root that a path leads to (P8).
func Climb(entry []byte, i int, n int, path []api.Digest) (api.Digest, api.Errno) {
	if !isIn(i, n) {
		return api.Digest{}, api.ErrArg
	}
	root, ok := tree.Climb(entry, i, n, path)
	if !ok {
		return api.Digest{}, api.ErrArg
	}
	return root, api.OK
}

// Extends looks at a link (P9).
func Extends(m int, n int, link []api.Digest, old api.Digest, now api.Digest) bool {
	switch {
	case m < 0 || m > n:
		return false
	case m == n:
		return len(link) == 0 && old == now
	case m == 0:
		return len(link) == 0 && old == digest.Hash(nil)
	}
	before, after, ok := tree.Grow(m, n, link, old)
	return ok && before == old && after == now
}

// Clash tells where two ways part, and whether that is a clash (P10).
func Clash(i int, n int, a []byte, p []api.Digest, b []byte, q []api.Digest) ([]byte, []byte, bool) {
	if !isIn(i, n) {
		return nil, nil, false
	}
	return tree.Clash(i, n, a, p, b, q)
}

// isIn says whether i is the number of one of n entries: of less than one there is none.
func isIn(i int, n int) bool { return 0 <= i && i < n }
