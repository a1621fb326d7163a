package annal_test

import (
	"bytes"
	"slices"
	"testing"

	"annal/annal"
	"annal/api"
)

const spare = 5 // digests ahead of and behind a list that is handed in

// guardedList is what guarded is for bytes: a list with other digests ahead of it, and behind it as its spare room.
type guardedList struct {
	all    []api.Digest
	before []api.Digest
}

func guardList(list []api.Digest) guardedList {
	other := digests(2 * spare)
	all := slices.Concat(other[:spare], list, other[spare:])
	return guardedList{all: all, before: slices.Clone(all)}
}

func (g guardedList) piece() []api.Digest { return g.all[spare : len(g.all)-spare] }

func (g guardedList) check(t *testing.T, what string) {
	t.Helper()
	if !slices.Equal(g.all, g.before) {
		t.Errorf("P2: %s of %d digests wrote into what was handed in, or around it", what, len(g.piece()))
	}
}

func TestSignedWritesNothing(t *testing.T) {
	for _, n := range append(slices.Clone(edges), 301, 5000) {
		g := guard(n)
		h := wantHead(g.piece(), n, digests(1)[0])
		for _, size := range []int{n, n + 1, -1} {
			h.Size = size
			checkSigned(t, "a key with spare room", g.piece(), h, size == n)
			g.check(t, "Signed, the key")
		}
	}
}

// Paths of the right length, of wrong ones, and at wrong numbers: none is written into.
func TestClimbWritesNothing(t *testing.T) {
	for _, k := range append(slices.Clone(edges), 301, 5000) {
		for _, n := range []int{-1, 0, 1, 2, 3, 8, 9, 64, 1 << 62} {
			for _, i := range []int{-1, 0, 1, n / 2, n - 1, n} {
				for _, length := range []int{0, 1, 2, 3, 4, 6, 7, 62} {
					entry, path := guard(k), guardList(digests(length))
					if n >= 1 && i >= 0 && i < n {
						checkClimb(t, "spare room", entry.piece(), i, n, path.piece())
					} else {
						checkNoClimb(t, "spare room", entry.piece(), i, n, path.piece())
					}
					entry.check(t, "Climb, the entry")
					path.check(t, "Climb, the path")
				}
			}
		}
	}
}

func TestExtendsWritesNothing(t *testing.T) {
	for _, n := range []int{-1, 0, 1, 2, 3, 7, 8, 9, 64, 1<<62 + 1} {
		for _, m := range []int{-1, 0, 1, 2, 3, n / 2, n - 1, n, n + 1} {
			for length := range longest {
				link := guardList(digests(length))
				old, now, want := api.Digest{9}, api.Digest{9}, m >= 0 && m == n && length == 0
				if 0 < m && m < n {
					old, now, want = linkRoots(m, n, slices.Clone(link.piece()), old)
				}
				checkExtends(t, "spare room", m, n, link.piece(), old, now, want)
				link.check(t, "Extends, the link")
			}
		}
	}
}

// The entry may be the bytes of a digest of the path itself.
func TestClimbOfAnEntryInThePath(t *testing.T) {
	for _, n := range []int{2, 3, 8, 9, 1 << 20} {
		for _, i := range within(n - 1) {
			for length := 1; length < 22; length++ {
				for k := range length {
					path := digests(length)
					entry := path[k][:]
					want, right := wantClimb(bytes.Clone(entry), i, n, slices.Clone(path))
					got, e := annal.Climb(entry, i, n, path)
					if (e == api.OK) != right || right && got != want {
						t.Errorf("P2: Climb(%d, %d) of a digest of its path as the entry = %x, %d, want %x", i, n, got, e, want)
					}
					if !slices.Equal(path, digests(length)) {
						t.Errorf("P2: Climb(%d, %d) wrote into the path that the entry stands in", i, n)
					}
				}
			}
		}
	}
}

// One memory carries all that is shown, one thing after the other: an answer is that of the bytes as they are then, and stays when they change.
func TestNothingShownIsKept(t *testing.T) {
	key, entries := []byte("key"), sample(17)
	l := logOf(t, key, entries)
	entry, list := make([]byte, api.MaxEntry), make([]api.Digest, 10)
	var roots []api.Digest
	for i := range entries {
		path, _ := l.Path(i, len(entries))
		copy(entry, entries[i])
		copy(list, path)
		root, e := annal.Climb(entry[:len(entries[i])], i, len(entries), list[:len(path)])
		if e != api.OK {
			t.Errorf("P2: Climb(%d, %d) = %d, want OK", i, len(entries), e)
		}
		roots = append(roots, root)
		link, _ := l.Link(i, len(entries))
		copy(list, link)
		checkExtends(t, "one memory", i, len(entries), list[:len(link)], wantRoot(entries[:i]), wantRoot(entries), true)
		if len(link) > 0 {
			list[0] = turned(list[0], i)
			checkExtends(t, "the memory changed", i, len(entries), list[:len(link)], wantRoot(entries[:i]), wantRoot(entries), false)
		}
	}
	for i, root := range roots {
		if root != wantRoot(entries) {
			t.Errorf("P2: the root of %d = %x, want %x", i, root, wantRoot(entries))
		}
	}
	h := l.Head()
	checkSigned(t, "one memory", key, h, true)
	key[0] ^= 1
	checkSigned(t, "the memory changed", key, h, false)
	key[0] ^= 1
	checkSigned(t, "the memory changed back", key, h, true)
}

// What looks from outside changes no log, be it of the log's own things.
func TestLookingChangesNoLog(t *testing.T) {
	key, entries := []byte("key"), sample(9)
	l := logOf(t, key, entries)
	for n := range len(entries) + 1 {
		for i := range n + 1 {
			path, _ := l.Path(i, n)
			link, _ := l.Link(i, n)
			annal.Climb(entries[min(i, len(entries)-1)], i, n, path)
			annal.Extends(i, n, link, api.Digest{}, api.Digest{})
			annal.Signed(key, l.Head())
		}
	}
	checkLog(t, "P1", l, key, entries)
}
