package annal_test

import (
	"bytes"
	"encoding/hex"
	"math"
	"slices"
	"testing"

	"annal/annal"
	"annal/api"
)

// far: numbers that lie beyond every log, where a sum or a difference could run over.
var far = []int{math.MinInt, math.MinInt + 1, -1 << 32, 1 << 32, 1 << 62, math.MaxInt - 1, math.MaxInt}

// around: all numbers that a log of so many entries has, some below and above them, and the far ones.
func around(count int) []int {
	list := slices.Clone(far)
	for n := -3; n <= count+3; n++ {
		list = append(list, n)
	}
	return append(list, api.MaxEntries, api.MaxEntries+1)
}

// turns: counts around the powers of two.
var turns = []int{0, 1, 2, 3, 4, 5, 6, 7, 8, 9, 15, 16, 17, 31, 32, 33, 63, 64}

func TestNewAtEveryKeyLength(t *testing.T) {
	for n := range api.MaxKey + 1 {
		key := pattern(n)
		checkHead(t, "P4", newLog(t, key), key, nil)
	}
	for _, n := range []int{api.MaxKey + 1, api.MaxKey + 2, 128, 5000} {
		if l, e := annal.New(pattern(n)); l != nil || e != api.ErrLong {
			t.Errorf("P4: New of a key of %d bytes = %v, %d, want nil and ErrLong", n, l, e)
		}
	}
}

func TestNewWithoutAKey(t *testing.T) {
	checkLog(t, "P4", newLog(t, nil), nil, nil)
	checkLog(t, "P4", newLog(t, []byte{}), nil, nil)
}

func TestAppendAtEveryLength(t *testing.T) {
	for n := range api.MaxEntry + 1 {
		l := newLog(t, nil)
		add(t, l, pattern(n), 0)
		checkRoot(t, "P4", l, [][]byte{pattern(n)})
	}
}

func TestAppendOfNoBytesIsAnEntry(t *testing.T) {
	l := logOf(t, nil, [][]byte{nil, {}, nil})
	checkLog(t, "P4", l, nil, make([][]byte, 3))
}

func checkTooLong(t *testing.T, l *annal.Log, entry []byte) {
	t.Helper()
	if i, e := l.Append(entry); i != 0 || e != api.ErrLong {
		t.Errorf("P4: Append of %d bytes = %d, %d, want 0 and ErrLong", len(entry), i, e)
	}
}

// An entry that is too long leaves the log as it is, and its number free for the next.
func TestAppendOfTooLongEntries(t *testing.T) {
	entries := sample(9)
	l := newLog(t, []byte("key"))
	for i, entry := range entries {
		for _, n := range []int{api.MaxEntry + 1, api.MaxEntry + 2, 5000} {
			checkTooLong(t, l, pattern(n))
		}
		checkLog(t, "P1", l, []byte("key"), entries[:i])
		add(t, l, entry, i)
	}
	checkLog(t, "P1", l, []byte("key"), entries)
}

func TestAppendToAFullLog(t *testing.T) {
	entries := sample(api.MaxEntries)
	l := logOf(t, []byte("key"), entries)
	for _, n := range []int{0, 1, api.MaxEntry, api.MaxEntry + 1} {
		checkTooLong(t, l, pattern(n))
		checkTooLong(t, l, nil)
	}
	if h := l.Head(); h.Size != api.MaxEntries {
		t.Errorf("P4: a full log has %d entries, want %d", h.Size, api.MaxEntries)
	}
	checkLog(t, "P1", l, []byte("key"), entries)
}

// The leaves, roots, paths and links of a growing log: at each count all that was told before must be told again.
func TestGrowingLog(t *testing.T) {
	key, entries := []byte("key"), sample(api.MaxEntries)
	l := newLog(t, key)
	for n, entry := range entries {
		if slices.Contains(turns, n) {
			checkLog(t, "P5, P6", l, key, entries[:n])
		}
		add(t, l, entry, n)
	}
	checkLog(t, "P5, P6", l, key, entries)
}

func TestHeadAtEveryCount(t *testing.T) {
	entries := sample(api.MaxEntries)
	for _, k := range []int{0, 1, 63, 64, 65, api.MaxKey} {
		key := pattern(k)
		l := newLog(t, key)
		for n, entry := range entries {
			checkHead(t, "P5", l, key, entries[:n])
			add(t, l, entry, n)
		}
		checkHead(t, "P5", l, key, entries)
	}
}

// The entries and roots that the tests of Certificate Transparency go by.
func TestKnownRoots(t *testing.T) {
	l := newLog(t, nil)
	for i, c := range []struct{ entry, want string }{
		{"", "6e340b9cffb37a989ca544e6bb780a2c78901d3fb33738768511a30617afa01d"},
		{"00", "fac54203e7cc696cf0dfcb42c92a1d9dbaf70ad9e621f4bd8d98662f00e3c125"},
		{"10", "aeb6bcfe274b70a14fb067a5e5578264db0fa9b51af5e0ba159158f329e06e77"},
		{"2021", "d37ee418976dd95753c1c73862b9398fa2a2cf9b4ff0fdfe8b30cd95209614b7"},
		{"3031", "4e3bbb1f7b478dcfe71fb631631519a3bca12c9aefca1612bfce4c13a86264d4"},
		{"40414243", "76e67dadbcdf1e10e1b74ddc608abd2f98dfb16fbce75277b5232a127f2087ef"},
		{"5051525354555657", "ddb89be403809e325750d3d263cd78929c2942b7942a34b77e122c9594a74c8c"},
		{"606162636465666768696a6b6c6d6e6f", "5dc9da79a70659a9ad559cb701ded9a2ab9d823aad2f4960cfe370eff4604328"},
	} {
		entry, err := hex.DecodeString(c.entry)
		if err != nil {
			t.Fatal(err)
		}
		add(t, l, entry, i)
		if got, e := l.Root(i + 1); hex.EncodeToString(got[:]) != c.want || e != api.OK {
			t.Errorf("P5: Root(%d) = %x, %d, want %s", i+1, got, e, c.want)
		}
	}
}

func letters(text string) [][]byte {
	return bytes.Split([]byte(text), nil)
}

func checkList(t *testing.T, what string, got []api.Digest, e api.Errno, want ...api.Digest) {
	t.Helper()
	if !slices.Equal(got, want) || e != api.OK {
		t.Errorf("P6: %s = %x, %d, want %x", what, got, e, want)
	}
}

// Section 'Examples', 2.
func TestExamplesOfTheDocument(t *testing.T) {
	list := letters("abcdefg")
	l := logOf(t, nil, list)
	a, b, c, d := wantLeaf(list[0]), wantLeaf(list[1]), wantLeaf(list[2]), wantLeaf(list[3])
	ab := wantKnot(a, b)
	if got, e := l.Root(3); got != wantKnot(ab, c) || e != api.OK {
		t.Errorf("P5: Root(3) = %x, %d, want %x", got, e, wantKnot(ab, c))
	}
	got, e := l.Path(0, 3)
	checkList(t, "the path of 0 in 3", got, e, b, c)
	got, e = l.Path(2, 3)
	checkList(t, "the path of 2 in 3", got, e, ab)
	got, e = l.Link(1, 3)
	checkList(t, "the link from 1 to 3", got, e, b, c)
	got, e = l.Link(2, 3)
	checkList(t, "the link from 2 to 3", got, e, c)
	got, e = l.Link(3, 7)
	checkList(t, "the link from 3 to 7", got, e, c, d, ab, wantRoot(list[4:]))
}

// An entry that is written as the text of a knot is a leaf all the same.
func TestAnEntryIsNoKnot(t *testing.T) {
	list := letters("ab")
	left, right := wantLeaf(list[0]), wantLeaf(list[1])
	pair := slices.Concat(left[:], right[:])
	for _, entry := range [][]byte{pair, slices.Concat([]byte{1}, pair)} {
		forged, _ := logOf(t, nil, [][]byte{entry}).Root(1)
		if forged == wantRoot(list) {
			t.Errorf("P5: an entry of %d bytes has the root of two entries", len(entry))
		}
	}
}

func TestRootOfWrongNumbers(t *testing.T) {
	for _, count := range turns {
		l := logOf(t, nil, sample(count))
		for _, n := range around(count) {
			got, e := l.Root(n)
			if n >= 0 && n <= count {
				if e != api.OK {
					t.Errorf("P5: Root(%d) of %d entries = %d, want OK", n, count, e)
				}
			} else if got != (api.Digest{}) || e != api.ErrArg {
				t.Errorf("P5: Root(%d) of %d entries = %x, %d, want noughts and ErrArg", n, count, got, e)
			}
		}
	}
}

func checkNumbers(t *testing.T, what string, i, n, count int, right bool, got []api.Digest, e api.Errno) {
	t.Helper()
	if right && e != api.OK {
		t.Errorf("P6: %s(%d, %d) of %d entries = %d, want OK", what, i, n, count, e)
	}
	if !right && (got != nil || e != api.ErrArg) {
		t.Errorf("P6: %s(%d, %d) of %d entries = %x, %d, want nil and ErrArg", what, i, n, count, got, e)
	}
}

func TestPathAndLinkOfWrongNumbers(t *testing.T) {
	for _, count := range []int{0, 1, 2, 3, 4, 5, 7, 8, 9, 17, api.MaxEntries} {
		entries := sample(count)
		l := logOf(t, nil, entries)
		for _, i := range around(count) {
			for _, n := range around(count) {
				got, e := l.Path(i, n)
				checkNumbers(t, "Path", i, n, count, 1 <= n && n <= count && 0 <= i && i < n, got, e)
				got, e = l.Link(i, n)
				checkNumbers(t, "Link", i, n, count, 0 <= n && n <= count && 0 <= i && i <= n, got, e)
			}
		}
		checkHead(t, "P1", l, nil, entries)
	}
}
