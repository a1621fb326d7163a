// Package tree reckons the roots, paths and links of entries under a tree of hashes (RFC 6962, 2.1).
package tree

import (
	"slices"

	"annal/api"
	"annal/digest"
)

// The first byte of a text: it keeps an entry that looks like two digests from being taken for a knot.
const (
	leafMark = 0
	knotMark = 1
)

// place is where something is hashed: a leaf, above an entry, or a knot, above two digests. Its methods tell the text that is hashed there.
type place struct {
	entry       []byte
	left, right api.Digest
}

func (p place) leaf() []byte { return slices.Concat([]byte{leafMark}, p.entry) }

func (p place) knot() []byte { return slices.Concat([]byte{knotMark}, p.left[:], p.right[:]) }

// text is a method value of a place: which method it is says what kind of place it stands for. It tells the text in new memory each time.
type text func() []byte

func (t text) hash() api.Digest { return digest.Hash(t()) }

func leafText(entry []byte) text { return place{entry: entry}.leaf }

func knotText(left, right api.Digest) text { return place{left: left, right: right}.knot }

func leafOf(entry []byte) api.Digest { return leafText(entry).hash() }

func knotOf(left, right api.Digest) api.Digest { return knotText(left, right).hash() }
