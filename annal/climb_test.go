package annal_test

import (
	"fmt"
	"math"
	"slices"
	"testing"

	"annal/annal"
	"annal/api"
)

// checkClimb holds Climb against the reference, be the path's length right or not.
func checkClimb(t *testing.T, what string, entry []byte, i, n int, path []api.Digest) {
	t.Helper()
	want, right := wantClimb(entry, i, n, path)
	if !right {
		checkNoClimb(t, what, entry, i, n, path)
		return
	}
	if got, e := annal.Climb(entry, i, n, path); got != want || e != api.OK {
		t.Errorf("P8: %s: Climb(%d bytes, %d, %d, %d digests) = %x, %d, want %x", what, len(entry), i, n, len(path), got, e, want)
	}
}

func checkNoClimb(t *testing.T, what string, entry []byte, i, n int, path []api.Digest) {
	t.Helper()
	if got, e := annal.Climb(entry, i, n, path); got != (api.Digest{}) || e != api.ErrArg {
		t.Errorf("P8: %s: Climb(%d bytes, %d, %d, %d digests) = %x, %d, want noughts and ErrArg", what, len(entry), i, n, len(path), got, e)
	}
}

func TestClimbOfEveryPath(t *testing.T) {
	entries := sample(api.MaxEntries)
	l := logOf(t, nil, entries)
	for n := 1; n <= len(entries); n++ {
		want, _ := l.Root(n)
		for i := range n {
			path, _ := l.Path(i, n)
			if got, e := annal.Climb(entries[i], i, n, path); got != want || e != api.OK {
				t.Errorf("P8: Climb(%d, %d) of the log's own path = %x, %d, want %x", i, n, got, e, want)
			}
		}
	}
}

// Section 'Examples', 2, from outside.
func TestClimbOfThree(t *testing.T) {
	list := letters("abc")
	a, b, c := wantLeaf(list[0]), wantLeaf(list[1]), wantLeaf(list[2])
	want := wantKnot(wantKnot(a, b), c)
	for i, path := range [][]api.Digest{{b, c}, {a, c}, {wantKnot(a, b)}} {
		if got, e := annal.Climb(list[i], i, 3, path); got != want || e != api.OK {
			t.Errorf("P8: Climb(%d, 3) = %x, %d, want %x", i, got, e, want)
		}
	}
	if got, e := annal.Climb(list[0], 0, 1, nil); got != a || e != api.OK {
		t.Errorf("P8: Climb(0, 1) = %x, %d, want %x", got, e, a)
	}
}

// Each change of what is shown is one of the root too; it is another one, but no error.
func TestClimbOfAnotherThing(t *testing.T) {
	entries := sample(33)
	for _, n := range turns {
		if n < 1 || n > len(entries) {
			continue
		}
		root := wantRoot(entries[:n])
		for i := range n {
			path := wantPath(entries[:n], i)
			check := func(what string, entry []byte, i int, path []api.Digest) {
				t.Helper()
				checkClimb(t, what, entry, i, n, path)
				if got, _ := annal.Climb(entry, i, n, path); got == root {
					t.Errorf("P8: %s: Climb(%d, %d) is the same root", what, i, n)
				}
			}
			check("a byte more", append(slices.Clone(entries[i]), 0), i, path)
			check("another entry", []byte("another entry"), i, path)
			for k := range path {
				other := slices.Clone(path)
				other[k] = turned(other[k], (n*i+k)%256)
				check("another digest", entries[i], i, other)
			}
			if len(path) > 1 {
				slices.Reverse(path)
				check("the path turned round", entries[i], i, path)
				slices.Reverse(path)
			}
			for other := range n {
				if other != i {
					check("another number", entries[i], other, path)
				}
			}
		}
	}
}

// An entry that no log takes may stand in a tree that another one keeps.
func TestClimbOfEntriesOfAnyLength(t *testing.T) {
	for _, entry := range rows() {
		checkClimb(t, "alone", entry, 0, 1, nil)
		checkClimb(t, "alone", entry, 0, 1, []api.Digest{})
		checkClimb(t, "among three", entry, 1, 3, digests(2))
		checkClimb(t, "the last of 65", entry, 64, 65, digests(1))
	}
}

func TestClimbAtEveryPathLength(t *testing.T) {
	list := digests(longest)
	for n := 1; n <= 70; n++ {
		for i := range n {
			for length := range 12 {
				checkClimb(t, "a length", []byte("entry"), i, n, list[:length])
			}
		}
	}
	for _, n := range giants {
		for _, i := range within(n - 1) {
			for length := range longest {
				checkClimb(t, "a length", []byte("entry"), i, n, list[:length])
			}
		}
	}
}

// How long paths are where there are as many entries as a number can tell, counted by hand.
func TestClimbOfVeryMany(t *testing.T) {
	for _, c := range []struct{ i, n, length int }{
		{0, math.MaxInt, 63},
		{1<<62 - 1, math.MaxInt, 63},
		{1 << 62, math.MaxInt, 63},
		{math.MaxInt - 2, math.MaxInt, 63},
		{math.MaxInt - 1, math.MaxInt, 62},
		{math.MaxInt - 2, math.MaxInt - 1, 62},
		{0, 1 << 62, 62},
		{1<<62 - 1, 1 << 62, 62},
		{0, 1<<62 + 1, 63},
		{1 << 62, 1<<62 + 1, 1},
	} {
		for length := range longest {
			path := digests(length)
			if got, e := annal.Climb(nil, c.i, c.n, path); (e == api.OK) != (length == c.length) {
				t.Errorf("P8: Climb(%d, %d) with %d digests = %x, %d; the path has %d", c.i, c.n, length, got, e, c.length)
			}
		}
	}
}

func TestClimbWithADigestMoreOrLess(t *testing.T) {
	entries := sample(33)
	for n := 1; n <= len(entries); n++ {
		for i := range n {
			path := wantPath(entries[:n], i)
			more := digests(1)
			checkNoClimb(t, "one more ahead", entries[i], i, n, slices.Concat(more, path))
			checkNoClimb(t, "one more behind", entries[i], i, n, slices.Concat(path, more))
			checkNoClimb(t, "very many more", entries[i], i, n, slices.Concat(path, make([]api.Digest, 1000)))
			if len(path) > 0 {
				checkNoClimb(t, "without the first", entries[i], i, n, path[1:])
				checkNoClimb(t, "without the last", entries[i], i, n, path[:len(path)-1])
				checkNoClimb(t, "none", entries[i], i, n, nil)
			}
		}
	}
}

// wrongNumbers: pairs i, n where i is no number of one of n entries.
func wrongNumbers() [][2]int {
	all := slices.Concat(far, []int{-65, -64, -3, -2, -1, 0, 1, 2, 3, 4, 5, 8, 63, 64, 65})
	var list [][2]int
	for _, i := range all {
		for _, n := range all {
			if n < 1 || i < 0 || i >= n {
				list = append(list, [2]int{i, n})
			}
		}
	}
	return list
}

func TestClimbOfWrongNumbers(t *testing.T) {
	list := digests(longest)
	for _, pair := range wrongNumbers() {
		for length := range longest {
			checkNoClimb(t, "wrong numbers", []byte("entry"), pair[0], pair[1], list[:length])
		}
	}
}

// A path of more digests than there are levels is refused, whatever else it could be read as: an entry below a knot's text, a leaf for a knot.
func TestClimbTakesNoKnotForALeaf(t *testing.T) {
	entries := sample(4)
	leaves := []api.Digest{wantLeaf(entries[0]), wantLeaf(entries[1]), wantLeaf(entries[2]), wantLeaf(entries[3])}
	left, right := wantKnot(leaves[0], leaves[1]), wantKnot(leaves[2], leaves[3])
	root := wantKnot(left, right)
	for k, entry := range [][]byte{
		slices.Concat(leaves[0][:], leaves[1][:]),
		slices.Concat([]byte{1}, leaves[0][:], leaves[1][:]),
		left[:],
	} {
		if got, e := annal.Climb(entry, 0, 2, []api.Digest{right}); got == root || e != api.OK {
			t.Errorf("P8: the inner text %d was taken for an entry: %x, %d", k, got, e)
		}
	}
	checkNoClimb(t, "a deeper path", entries[0], 0, 2, []api.Digest{leaves[1], right})
}

func TestClimbEndsAtAnyPath(t *testing.T) {
	long := make([]api.Digest, 1<<16)
	for _, i := range numbers {
		for _, n := range numbers {
			ends(t, fmt.Sprintf("Climb(%d, %d) of a long path", i, n), func() {
				checkNoClimb(t, "a long path", nil, i, n, long)
			})
		}
	}
}
