package annal_test

import (
	"bytes"
	"fmt"
	"slices"
	"testing"

	"annal/annal"
	"annal/api"
)

// shown is what somebody shows: an entry, and a path from it.
type shown struct {
	entry []byte
	path  []api.Digest
}

func (s shown) String() string {
	return fmt.Sprintf("%d bytes and %d digests", len(s.entry), len(s.path))
}

func checkNoClash(t *testing.T, what string, i, n int, a, b shown) {
	t.Helper()
	if first, second, same := annal.Clash(i, n, a.entry, a.path, b.entry, b.path); first != nil || second != nil || same {
		t.Errorf("P10: %s: Clash(%d, %d, %v, %v) = %x, %x, %v, want nil, nil and false", what, i, n, a, b, first, second, same)
	}
}

func checkTexts(t *testing.T, what string, i, n int, a, b shown, wantFirst, wantSecond []byte) {
	t.Helper()
	first, second, same := annal.Clash(i, n, a.entry, a.path, b.entry, b.path)
	if !bytes.Equal(first, wantFirst) || !bytes.Equal(second, wantSecond) || same {
		t.Errorf("P10: %s: Clash(%d, %d, %v, %v) = %x, %x, %v, want %x, %x, false", what, i, n, a, b, first, second, same, wantFirst, wantSecond)
	}
}

// checkClash holds Clash against the reference, both ways round; i is from 0 to n - 1. No two texts with one hash are known, so none is looked for.
func checkClash(t *testing.T, what string, i, n int, a, b shown) {
	t.Helper()
	ours, right := wantTexts(wantHash, a.entry, i, n, a.path)
	theirs, alsoRight := wantTexts(wantHash, b.entry, i, n, b.path)
	for k := len(ours) - 1; right && alsoRight && k >= 0; k-- {
		if !bytes.Equal(ours[k], theirs[k]) {
			checkTexts(t, what, i, n, a, b, ours[k], theirs[k])
			checkTexts(t, what+", exchanged", i, n, b, a, theirs[k], ours[k])
			return
		}
	}
	checkNoClash(t, what, i, n, a, b)
	checkNoClash(t, what+", exchanged", i, n, b, a)
}

// others: what is nearly s, with another entry, another digest at each height, and both.
func others(s shown) []shown {
	entries := [][]byte{append(bytes.Clone(s.entry), 0), []byte("another entry")}
	if len(s.entry) > 0 {
		entries = append(entries, nil, s.entry[1:], s.entry[:len(s.entry)-1])
	}
	var list []shown
	for _, entry := range entries {
		list = append(list, shown{entry, s.path})
	}
	for k := range s.path {
		path := slices.Clone(s.path)
		path[k] = turned(path[k], (k*37+len(s.entry))%256)
		list = append(list, shown{s.entry, path}, shown{entries[0], path})
	}
	return list
}

func TestClashOfEveryPath(t *testing.T) {
	entries := sample(api.MaxEntries)
	l := logOf(t, nil, entries)
	for _, n := range turns {
		for i := range n {
			path, _ := l.Path(i, n)
			own := shown{entries[i], path}
			checkClash(t, "the log's own", i, n, own, shown{bytes.Clone(entries[i]), slices.Clone(path)})
			for _, other := range others(own) {
				checkClash(t, "another", i, n, own, other)
				if first, _, _ := annal.Clash(i, n, own.entry, own.path, other.entry, other.path); wantHash(first) != wantRoot(entries[:n]) {
					t.Errorf("P12: Clash(%d, %d): the log's own text %x has not its root as the hash", i, n, first)
				}
			}
		}
	}
}

// Both show something that no log has.
func TestClashOfTwoOthers(t *testing.T) {
	for _, c := range []struct{ i, n, length int }{{0, 1, 0}, {1, 2, 1}, {0, 3, 2}, {2, 3, 1}, {5, 7, 3}, {6, 7, 2}, {64, 65, 1}, {63, 65, 7}} {
		list := others(shown{[]byte("entry"), digests(c.length)})
		for _, a := range list {
			for _, b := range list {
				checkClash(t, "two others", c.i, c.n, a, b)
			}
		}
	}
}

// The texts of a tree of three, written out.
func TestClashOfThree(t *testing.T) {
	list := letters("abc")
	a, b, c := wantLeaf(list[0]), wantLeaf(list[1]), wantLeaf(list[2])
	ab, other := wantKnot(a, b), wantLeaf([]byte("x"))
	text := func(left, right api.Digest) []byte { return slices.Concat([]byte{1}, left[:], right[:]) }
	first, last := shown{list[0], []api.Digest{b, c}}, shown{list[2], []api.Digest{ab}}
	for _, k := range []struct {
		what         string
		i            int
		own, other   shown
		text, parted []byte
	}{
		{"another first entry", 0, first, shown{[]byte("x"), first.path}, text(ab, c), text(wantKnot(other, b), c)},
		{"another lowest digest", 0, first, shown{list[0], []api.Digest{other, c}}, text(ab, c), text(wantKnot(a, other), c)},
		{"another highest digest", 0, first, shown{list[0], []api.Digest{b, other}}, text(ab, c), text(ab, other)},
		{"another last entry", 2, last, shown{[]byte("x"), last.path}, text(ab, c), text(ab, other)},
		{"another digest", 2, last, shown{list[2], []api.Digest{other}}, text(ab, c), text(other, c)},
	} {
		checkTexts(t, k.what, k.i, 3, k.own, k.other, k.text, k.parted)
		checkTexts(t, k.what+", exchanged", k.i, 3, k.other, k.own, k.parted, k.text)
	}
}

// Of one entry alone the texts are those of the leaves, be the entries as long as they may.
func TestClashOfEntriesAlone(t *testing.T) {
	list := append(rows(), []byte{0}, []byte{1}, make([]byte, 64))
	for _, a := range list {
		for _, b := range list {
			if bytes.Equal(a, b) {
				checkNoClash(t, "alike", 0, 1, shown{a, nil}, shown{b, []api.Digest{}})
			} else {
				checkTexts(t, "unlike", 0, 1, shown{a, nil}, shown{b, []api.Digest{}}, append([]byte{0}, a...), append([]byte{0}, b...))
			}
			checkClash(t, "among three", 1, 3, shown{a, digests(2)}, shown{b, digests(2)})
		}
	}
}

// pathLength finds the length of the path of i in n.
func pathLength(t *testing.T, i, n int) int {
	t.Helper()
	list := make([]api.Digest, longest)
	for length := range list {
		if _, right := wantTexts(wantHash, nil, i, n, list[:length]); right {
			return length
		}
	}
	t.Fatalf("no path of %d in %d has fewer than %d digests", i, n, longest)
	return 0
}

// Of two ways, either or both may have a length that is none of i in n; those that are alike are no clash at any length.
func TestClashAtEveryPathLength(t *testing.T) {
	list := digests(longest)
	check := func(i, n, most int) {
		t.Helper()
		right := pathLength(t, i, n)
		for length := range most {
			a, b := shown{[]byte("a"), list[:length]}, shown{[]byte("b"), list[:right]}
			checkClash(t, "a length", i, n, a, b)
			checkClash(t, "one length", i, n, a, shown{[]byte("b"), a.path})
			checkNoClash(t, "alike", i, n, a, shown{[]byte("a"), slices.Clone(a.path)})
		}
	}
	for n := 1; n <= 34; n++ {
		for i := range n {
			check(i, n, 10)
		}
	}
	for _, n := range giants {
		for _, i := range within(n - 1) {
			check(i, n, longest)
		}
	}
}

func TestClashWithADigestMoreOrLess(t *testing.T) {
	entries := sample(33)
	for n := 1; n <= len(entries); n++ {
		for i := range n {
			path := wantPath(entries[:n], i)
			own, other := shown{entries[i], path}, shown{[]byte("another entry"), path}
			wrong := [][]api.Digest{slices.Concat(digests(1), path), slices.Concat(path, digests(1)), slices.Concat(path, make([]api.Digest, 1000))}
			if len(path) > 0 {
				wrong = append(wrong, nil, path[1:], path[:len(path)-1])
			}
			for _, w := range wrong {
				for _, entry := range [][]byte{own.entry, other.entry} {
					checkNoClash(t, "the second path", i, n, own, shown{entry, w})
					checkNoClash(t, "the first path", i, n, shown{entry, w}, own)
					checkNoClash(t, "both paths", i, n, shown{entry, w}, shown{other.entry, slices.Clone(w)})
				}
			}
		}
	}
}

func TestClashOfWrongNumbers(t *testing.T) {
	list := digests(longest)
	for _, pair := range wrongNumbers() {
		for length := range longest {
			a, b := shown{[]byte("a"), list[:length]}, shown{[]byte("b"), list[:length]}
			checkNoClash(t, "wrong numbers", pair[0], pair[1], a, b)
			checkNoClash(t, "wrong numbers, alike", pair[0], pair[1], a, a)
		}
	}
}
