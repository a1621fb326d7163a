package annal_test

import (
	"fmt"
	"math"
	"slices"
	"testing"

	"annal/annal"
	"annal/api"
)

func checkExtends(t *testing.T, what string, m, n int, link []api.Digest, old, now api.Digest, want bool) {
	t.Helper()
	if got := annal.Extends(m, n, link, old, now); got != want {
		t.Errorf("P9: %s: Extends(%d, %d, %d digests) = %v, want %v", what, m, n, len(link), got, want)
	}
}

func TestExtendsByEveryLink(t *testing.T) {
	l := logOf(t, nil, sample(api.MaxEntries))
	for n := range api.MaxEntries + 1 {
		now, _ := l.Root(n)
		for m := range n + 1 {
			old, _ := l.Root(m)
			link, _ := l.Link(m, n)
			checkExtends(t, "the log's own link", m, n, link, old, now, true)
			if m != n {
				checkExtends(t, "the log's own link, the other way", n, m, link, now, old, false)
			}
		}
	}
}

// Section 'Examples', 2, from outside.
func TestExtendsOfTheExamples(t *testing.T) {
	list := letters("abcdefg")
	a, b, c, d := wantLeaf(list[0]), wantLeaf(list[1]), wantLeaf(list[2]), wantLeaf(list[3])
	three, seven := wantRoot(list[:3]), wantRoot(list)
	checkExtends(t, "1 to 3", 1, 3, []api.Digest{b, c}, a, three, true)
	checkExtends(t, "2 to 3", 2, 3, []api.Digest{c}, wantKnot(a, b), three, true)
	checkExtends(t, "3 to 7", 3, 7, []api.Digest{c, d, wantKnot(a, b), wantRoot(list[4:])}, three, seven, true)
}

// checkOthers changes a link that holds (m from 1 to n - 1) in one thing at a time.
func checkOthers(t *testing.T, m, n int, link []api.Digest, old, now api.Digest) {
	t.Helper()
	no := func(what string, link []api.Digest, old, now api.Digest) {
		t.Helper()
		checkExtends(t, what, m, n, link, old, now, false)
	}
	bit := (m*31 + n*7) & 255
	for k := range link {
		other := slices.Clone(link)
		other[k] = turned(other[k], (bit+k*11)&255)
		no("another digest", other, old, now)
		if k > 0 {
			other = slices.Clone(link)
			other[k], other[k-1] = other[k-1], other[k]
			no("two digests exchanged", other, old, now)
		}
		no("a digest less", slices.Delete(slices.Clone(link), k, k+1), old, now)
	}
	no("another old root", link, turned(old, bit), now)
	no("another new root", link, old, turned(now, bit))
	no("the roots exchanged", link, now, old)
	no("the old root twice", link, old, old)
	no("the new root twice", link, now, now)
	no("no link", nil, old, now)
	for _, d := range []api.Digest{old, now, link[0], {}} {
		no("one more ahead", slices.Concat([]api.Digest{d}, link), old, now)
		no("one more behind", slices.Concat(link, []api.Digest{d}), old, now)
	}
}

func TestExtendsByOtherLinks(t *testing.T) {
	l := logOf(t, nil, sample(api.MaxEntries))
	for n := 2; n <= api.MaxEntries; n++ {
		now, _ := l.Root(n)
		for m := 1; m < n; m++ {
			old, _ := l.Root(m)
			link, _ := l.Link(m, n)
			checkOthers(t, m, n, link, old, now)
		}
	}
}

// The link of other counts shows nothing of these, but where it has the length and leads to the roots.
func TestExtendsByLinksOfOtherCounts(t *testing.T) {
	entries := sample(18)
	l := logOf(t, nil, entries)
	for n := 2; n <= len(entries); n++ {
		for m := 1; m < n; m++ {
			old, now := wantRoot(entries[:m]), wantRoot(entries[:n])
			for b := range len(entries) + 1 {
				for a := range b + 1 {
					link, _ := l.Link(a, b)
					checkExtends(t, fmt.Sprintf("the link from %d to %d", a, b), m, n, link, old, now, linkHolds(m, n, link, old, now))
				}
			}
			for other := -2; other <= len(entries)+2; other++ {
				link, _ := l.Link(m, n)
				if other != m {
					want := 0 < other && other < n && linkHolds(other, n, link, old, now)
					checkExtends(t, fmt.Sprintf("%d taken for %d", m, other), other, n, link, old, now, want)
				}
				if other != n {
					want := other > m && linkHolds(m, other, link, old, now)
					checkExtends(t, fmt.Sprintf("%d taken for %d", n, other), m, other, link, old, now, want)
				}
			}
		}
	}
}

// linkLength finds the length of a link from m to n (m from 1 to n - 1).
func linkLength(t *testing.T, m, n int) int {
	t.Helper()
	list := make([]api.Digest, longest)
	for length := range list {
		if _, _, right := linkRoots(m, n, list[:length], api.Digest{}); right {
			return length
		}
	}
	t.Fatalf("no link from %d to %d has fewer than %d digests", m, n, longest)
	return 0
}

// fitted: what a link of a wrong length could be taken for, with noughts for what it lacks or without what it has too many.
func fitted(link []api.Digest, length int) [][]api.Digest {
	if len(link) > length {
		return [][]api.Digest{link[:length], link[len(link)-length:]}
	}
	noughts := make([]api.Digest, length-len(link))
	return [][]api.Digest{slices.Concat(noughts, link), slices.Concat(link, noughts)}
}

// checkLength asks with the roots that come of a link that is taken as it is, or for one of the right length: it is for the length alone to say no.
func checkLength(t *testing.T, m, n, length int, link []api.Digest) {
	t.Helper()
	known := api.Digest{1, 2, 3}
	old, now, right := linkRoots(m, n, link, known)
	checkExtends(t, "a length", m, n, link, old, now, right)
	if right {
		checkExtends(t, "another old root", m, n, link, turned(old, 9), now, false)
		checkExtends(t, "another new root", m, n, link, old, turned(now, 9), false)
		return
	}
	for _, other := range fitted(link, length) {
		old, now, _ := linkRoots(m, n, other, known)
		checkExtends(t, "a wrong length", m, n, link, old, now, false)
	}
	checkExtends(t, "a wrong length, no root", m, n, link, api.Digest{}, api.Digest{}, false)
	checkExtends(t, "a wrong length, one root", m, n, link, known, known, false)
}

func TestExtendsAtEveryLinkLength(t *testing.T) {
	list := digests(longest)
	for n := 2; n <= 70; n++ {
		for m := 1; m < n; m++ {
			right := linkLength(t, m, n)
			for length := range 12 {
				checkLength(t, m, n, right, list[:length])
			}
		}
	}
	for _, n := range giants {
		for _, m := range within(n) {
			if m < 1 || m >= n {
				continue
			}
			right := linkLength(t, m, n)
			for length := range longest {
				checkLength(t, m, n, right, list[:length])
			}
		}
	}
}

// How long links are where there are as many entries as a number can tell, counted by hand.
func TestExtendsOfVeryMany(t *testing.T) {
	for _, c := range []struct{ m, n, length int }{
		{1, math.MaxInt, 63},
		{1<<62 - 1, math.MaxInt, 64},
		{1 << 62, math.MaxInt, 1},
		{1<<62 + 1, math.MaxInt, 64},
		{math.MaxInt - 1, math.MaxInt, 63},
		{1, 1 << 62, 62},
		{1<<62 - 1, 1 << 62, 63},
		{1 << 62, 1<<62 + 1, 1},
		{1 << 61, 1<<62 + 1, 2},
	} {
		link := digests(c.length)
		old := api.Digest{7}
		below, above, right := linkRoots(c.m, c.n, link, old)
		if !right {
			t.Fatalf("a link from %d to %d has another length than %d", c.m, c.n, c.length)
		}
		checkExtends(t, "very many", c.m, c.n, link, below, above, true)
		checkOthers(t, c.m, c.n, link, below, above)
	}
}

// From m to m the link is empty and the root the same, whatever that is and whatever m.
func TestExtendsToTheSameCount(t *testing.T) {
	d := digests(2)
	empty := annal.Hash(nil)
	for _, n := range slices.Concat(turns, giants) {
		for _, root := range []api.Digest{d[0], empty, {}} {
			checkExtends(t, "the same root", n, n, nil, root, root, true)
			checkExtends(t, "the same root", n, n, []api.Digest{}, root, root, true)
			checkExtends(t, "a digest too many", n, n, []api.Digest{root}, root, root, false)
			checkExtends(t, "two digests too many", n, n, []api.Digest{root, root}, root, root, false)
			for bit := range 256 {
				checkExtends(t, "another root", n, n, nil, root, turned(root, bit), false)
			}
		}
		checkExtends(t, "from the empty root", n, n, nil, empty, d[0], false)
		checkExtends(t, "to the empty root", n, n, nil, d[0], empty, false)
	}
}

// From no entries on all grows, if only the old root is that of no entries.
func TestExtendsFromNothing(t *testing.T) {
	d := digests(1)[0]
	empty := annal.Hash(nil)
	for _, n := range slices.Concat(turns[1:], giants) {
		for _, now := range []api.Digest{d, empty, {}} {
			checkExtends(t, "from nothing", 0, n, nil, empty, now, true)
			checkExtends(t, "from nothing", 0, n, []api.Digest{}, empty, now, true)
			checkExtends(t, "a digest too many", 0, n, []api.Digest{now}, empty, now, false)
			checkExtends(t, "two digests too many", 0, n, []api.Digest{empty, now}, empty, now, false)
			checkExtends(t, "another old root", 0, n, nil, d, now, false)
			checkExtends(t, "noughts as the old root", 0, n, nil, api.Digest{}, now, false)
			for bit := range 256 {
				checkExtends(t, "another old root", 0, n, nil, turned(empty, bit), now, false)
			}
		}
	}
}

func TestExtendsOfWrongNumbers(t *testing.T) {
	list := digests(longest)
	empty := annal.Hash(nil)
	all := slices.Concat(far, []int{-65, -64, -3, -2, -1, 0, 1, 2, 3, 4, 5, 8, 63, 64, 65})
	for _, m := range all {
		for _, n := range all {
			if m >= 0 && m <= n {
				continue
			}
			for length := range longest {
				for _, root := range []api.Digest{empty, list[0], {}} {
					checkExtends(t, "wrong numbers", m, n, list[:length], root, root, false)
					checkExtends(t, "wrong numbers", m, n, list[:length], empty, root, false)
				}
			}
		}
	}
}

func TestExtendsEndsAtAnyLink(t *testing.T) {
	long := make([]api.Digest, 1<<16)
	for _, m := range numbers {
		for _, n := range numbers {
			ends(t, fmt.Sprintf("Extends(%d, %d) of a long link", m, n), func() {
				checkExtends(t, "a long link", m, n, long, api.Digest{}, api.Digest{}, false)
			})
		}
	}
}
