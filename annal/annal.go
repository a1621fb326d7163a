// Package annal: a log that can show what it has, and that it only grew: see DOC.md.
package annal

import (
	"annal/api"
	"annal/digest"
)

// Log keeps entries.
type Log struct{}

// Hash tells the hash of bytes (P3).
func Hash(data []byte) api.Digest { return digest.Hash(data) }

// Tag tells the tag of bytes by a key (P3).
func Tag(key []byte, data []byte) api.Digest { return digest.Tag(key, data) }

// New makes a log (P4).
func New(key []byte) (*Log, api.Errno) { return nil, api.OK }

// Append adds an entry (P4).
func (l *Log) Append(entry []byte) (int, api.Errno) { return 0, api.OK }

// Root tells the root of the first n entries (P5).
func (l *Log) Root(n int) (api.Digest, api.Errno) { return api.Digest{}, api.OK }

// Head tells the log's head (P5).
func (l *Log) Head() api.Head { return api.Head{} }

// Path shows that an entry is there (P6).
func (l *Log) Path(i int, n int) ([]api.Digest, api.Errno) { return nil, api.OK }

// Link shows that the log only grew (P6).
func (l *Log) Link(m int, n int) ([]api.Digest, api.Errno) { return nil, api.OK }

// Save writes the log as a file (P11).
func (l *Log) Save() string { return "" }

// Load reads a file (P11).
func Load(key []byte, file string) (*Log, api.Errno, int) { return nil, api.OK, 0 }

// Signed looks at a head (P7).
func Signed(key []byte, h api.Head) bool { return false }

// Climb tells the root that a path leads to (P8).
func Climb(entry []byte, i int, n int, path []api.Digest) (api.Digest, api.Errno) {
	return api.Digest{}, api.OK
}

// Extends looks at a link (P9).
func Extends(m int, n int, link []api.Digest, old api.Digest, now api.Digest) bool { return false }

// Clash tells where two ways part, and whether that is a clash (P10).
func Clash(i int, n int, a []byte, p []api.Digest, b []byte, q []api.Digest) ([]byte, []byte, bool) {
	return nil, nil, false
}
