package annal_test

import (
	"crypto/sha256"
	"encoding/binary"
	"fmt"
	"math"
	"math/bits"
	"slices"
	"testing"

	"annal/annal"
	"annal/api"
)

// What is wanted is reckoned here in another way than the program's: level by level from the leaves up, and paths and links that are looked at as RFC 9162 (2.1.3.2 and 2.1.4.2) looks at them.

func wantLeaf(entry []byte) api.Digest {
	return sha256.Sum256(slices.Concat([]byte{0}, entry))
}

func wantKnot(left, right api.Digest) api.Digest {
	return sha256.Sum256(slices.Concat([]byte{1}, left[:], right[:]))
}

// levels of the tree: the leaves first. A digest without a neighbour goes up as it is.
func levels(entries [][]byte) [][]api.Digest {
	var level []api.Digest
	for _, e := range entries {
		level = append(level, wantLeaf(e))
	}
	all := [][]api.Digest{level}
	for len(level) > 1 {
		var above []api.Digest
		for pair := range slices.Chunk(level, 2) {
			if len(pair) == 2 {
				above = append(above, wantKnot(pair[0], pair[1]))
			} else {
				above = append(above, pair[0])
			}
		}
		level = above
		all = append(all, level)
	}
	return all
}

func wantRoot(entries [][]byte) api.Digest {
	if len(entries) == 0 {
		return sha256.Sum256(nil)
	}
	all := levels(entries)
	return all[len(all)-1][0]
}

func wantPath(entries [][]byte, i int) []api.Digest {
	var path []api.Digest
	for _, level := range levels(entries) {
		if neighbour := i ^ 1; neighbour < len(level) {
			path = append(path, level[neighbour])
		}
		i /= 2
	}
	return path
}

func wantHash(text []byte) api.Digest { return sha256.Sum256(text) }

// wantTexts goes up from a leaf as RFC 9162 (2.1.3.2) does, and writes down what is hashed, that of the leaf first; i is from 0 to n - 1. It says too whether the path has the length that i and n ask for.
func wantTexts(hash func([]byte) api.Digest, entry []byte, i, n int, path []api.Digest) (texts [][]byte, right bool) {
	last, end := i, n-1
	texts = [][]byte{slices.Concat([]byte{0}, entry)}
	for k, d := range path {
		if end == 0 {
			return texts, false
		}
		below := hash(texts[k])
		if last&1 == 1 || last == end {
			texts = append(texts, slices.Concat([]byte{1}, d[:], below[:]))
			for last&1 == 0 && last != 0 {
				last, end = last>>1, end>>1
			}
		} else {
			texts = append(texts, slices.Concat([]byte{1}, below[:], d[:]))
		}
		last, end = last>>1, end>>1
	}
	return texts, end == 0
}

// wantClimb tells the root at the end of that way.
func wantClimb(entry []byte, i, n int, path []api.Digest) (root api.Digest, right bool) {
	texts, right := wantTexts(wantHash, entry, i, n, path)
	return wantHash(texts[len(texts)-1]), right
}

// linkRoots tells the roots of m and of n entries that come of a link; m is from 1 to n - 1. It says too whether the link has the length that m and n ask for. No digest of a link that holds can be another one, for each goes into one of the roots.
func linkRoots(m, n int, link []api.Digest, old api.Digest) (below, above api.Digest, right bool) {
	if bits.OnesCount(uint(m)) == 1 {
		link = slices.Concat([]api.Digest{old}, link)
	}
	if len(link) == 0 {
		return api.Digest{}, api.Digest{}, false
	}
	last, end := m-1, n-1
	for last&1 == 1 {
		last, end = last>>1, end>>1
	}
	below, above = link[0], link[0]
	for _, d := range link[1:] {
		if end == 0 {
			return below, above, false
		}
		if last&1 == 1 || last == end {
			below, above = wantKnot(d, below), wantKnot(d, above)
			for last&1 == 0 && last != 0 {
				last, end = last>>1, end>>1
			}
		} else {
			above = wantKnot(above, d)
		}
		last, end = last>>1, end>>1
	}
	return below, above, end == 0
}

// linkHolds says whether the link shows that the tree of n with the root now begins with that of m with the root old; m is from 1 to n - 1.
func linkHolds(m, n int, link []api.Digest, old, now api.Digest) bool {
	below, above, right := linkRoots(m, n, link, old)
	return right && below == old && above == now
}

// wantHead is the head of so many entries with this root, whatever they are.
func wantHead(key []byte, size int, root api.Digest) api.Head {
	text := binary.BigEndian.AppendUint64(nil, uint64(size))
	return api.Head{Size: size, Root: root, Tag: wantTag(key, append(text, root[:]...))}
}

// digests makes n digests, no two alike.
func digests(n int) []api.Digest {
	var list []api.Digest
	for i := range n {
		list = append(list, sha256.Sum256(fmt.Appendf(nil, "digest %d", i)))
	}
	return list
}

// turned is the digest with one bit the other way.
func turned(d api.Digest, bit int) api.Digest {
	d[bit/8] ^= 1 << (bit % 8)
	return d
}

// giants: counts beyond every log, where the levels of the tree are as many as there can be.
var giants = []int{65, 1000, 1<<20 - 1, 1 << 20, 1<<20 + 1, 1<<32 - 1, 1 << 32, 1<<32 + 1, 1<<61 + 1<<30, 1<<62 - 1, 1 << 62, 1<<62 + 1, 0x2aaaaaaaaaaaaaaa, 0x5555555555555555, math.MaxInt - 1, math.MaxInt}

// within: numbers from 0 to n at which the way through n entries turns.
func within(n int) []int {
	list := []int{0, n - 2, n - 1, n, n / 3, n / 2, n/2 + n/4}
	for k := 1; k > 0 && k <= n; k *= 2 {
		if k < 8 || k > n/4 || k == 1<<32 {
			list = append(list, k-1, k, k+1)
		}
	}
	list = slices.DeleteFunc(list, func(i int) bool { return i < 0 || i > n })
	slices.Sort(list)
	return slices.Compact(list)
}

const longest = 66 // more digests than the path or link of any two numbers has

// sample makes n entries, no two of one length, so that none can stand for another; the first one is empty.
func sample(n int) [][]byte {
	var list [][]byte
	for i := range n {
		list = append(list, pattern(i*37%(api.MaxEntry+1)))
	}
	return list
}

func newLog(t *testing.T, key []byte) *annal.Log {
	t.Helper()
	l, e := annal.New(key)
	if l == nil || e != api.OK {
		t.Fatalf("P4: New of a key of %d bytes = %v, %d, want a log", len(key), l, e)
	}
	return l
}

func add(t *testing.T, l *annal.Log, entry []byte, want int) {
	t.Helper()
	if i, e := l.Append(entry); i != want || e != api.OK {
		t.Fatalf("P4: Append of %d bytes = %d, %d, want %d", len(entry), i, e, want)
	}
}

func logOf(t *testing.T, key []byte, entries [][]byte) *annal.Log {
	t.Helper()
	l := newLog(t, key)
	for i, e := range entries {
		add(t, l, e, i)
	}
	return l
}

// checkLog asks the log for all that it tells, and holds it against what these entries ask for.
func checkLog(t *testing.T, promise string, l *annal.Log, key []byte, entries [][]byte) {
	t.Helper()
	checkHead(t, promise, l, key, entries)
	for n := range len(entries) + 1 {
		checkRoot(t, promise, l, entries[:n])
		for i := range n {
			checkPath(t, promise, l, entries[:n], i)
		}
		for m := range n + 1 {
			checkLink(t, promise, l, entries[:n], m)
		}
	}
}

func checkHead(t *testing.T, promise string, l *annal.Log, key []byte, entries [][]byte) {
	t.Helper()
	if got, want := l.Head(), wantHead(key, len(entries), wantRoot(entries)); got != want {
		t.Errorf("%s: Head() of %d entries = %x, want %x", promise, len(entries), got, want)
	}
}

func checkRoot(t *testing.T, promise string, l *annal.Log, entries [][]byte) {
	t.Helper()
	got, e := l.Root(len(entries))
	if want := wantRoot(entries); got != want || e != api.OK {
		t.Errorf("%s: Root(%d) = %x, %d, want %x", promise, len(entries), got, e, want)
	}
}

func checkPath(t *testing.T, promise string, l *annal.Log, entries [][]byte, i int) {
	t.Helper()
	got, e := l.Path(i, len(entries))
	if want := wantPath(entries, i); !slices.Equal(got, want) || e != api.OK {
		t.Errorf("%s: Path(%d, %d) = %x, %d, want %x", promise, i, len(entries), got, e, want)
	}
}

func checkLink(t *testing.T, promise string, l *annal.Log, entries [][]byte, m int) {
	t.Helper()
	n := len(entries)
	got, e := l.Link(m, n)
	holds := len(got) == 0
	if m != 0 && m != n {
		holds = linkHolds(m, n, got, wantRoot(entries[:m]), wantRoot(entries))
	}
	if !holds || e != api.OK {
		t.Errorf("%s: Link(%d, %d) = %x, %d, which is no link", promise, m, n, got, e)
	}
}
