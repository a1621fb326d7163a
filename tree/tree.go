package tree

import (
	"math/bits"

	"annal/api"
	"annal/digest"
)

// Root tells the root of all entries.
func Root(entries [][]byte) api.Digest {
	switch len(entries) {
	case 0:
		return digest.Hash(nil)
	case 1:
		return leafOf(entries[0])
	}
	first, others := split(entries)
	return knotOf(Root(first), Root(others))
}

// Path tells the path of the entry with the number i, which must be one of the entries.
func Path(entries [][]byte, i int) []api.Digest {
	if len(entries) == 1 {
		return nil
	}
	first, others := split(entries)
	if i < len(first) {
		return append(Path(first, i), Root(others))
	}
	return append(Path(others, i-len(first)), Root(first))
}

// Link tells the link from the first m to all entries; m is from 0 to how many there are.
func Link(entries [][]byte, m int) []api.Digest {
	if m == 0 {
		return nil
	}
	return sub(m, entries, true)
}

// sub tells the part of a link that lies in these entries, of which the first m (at least one) are old. Of a whole tree the old root is known to whoever looks, so that no digest need stand for it.
func sub(m int, entries [][]byte, whole bool) []api.Digest {
	if m == len(entries) {
		if whole {
			return nil
		}
		return []api.Digest{Root(entries)}
	}
	first, others := split(entries)
	if m <= len(first) {
		return append(sub(m, first, whole), Root(others))
	}
	return append(sub(m-len(first), others, false), Root(first))
}

// split parts two or more entries below their knot.
func split(entries [][]byte) (first, others [][]byte) {
	k := powerBelow(len(entries))
	return entries[:k], entries[k:]
}

// powerBelow tells the greatest power of two below n, which must be above 1.
func powerBelow(n int) int { return 1 << (bits.Len(uint(n-1)) - 1) }
