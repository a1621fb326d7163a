package annal_test

import (
	"bytes"
	"slices"
	"testing"

	"annal/annal"
	"annal/api"
)

// mark writes one byte over a whole text and its spare room, and appends as its owner may.
func mark(text []byte, with byte) {
	room := text[:cap(text)]
	for i := range room {
		room[i] = with
	}
	for range 3 {
		text = append(text, with)
	}
}

func checkMarked(t *testing.T, text []byte, with byte) {
	t.Helper()
	for _, b := range text[:cap(text)] {
		if b != with {
			t.Fatalf("P2: two texts that came out share memory")
		}
	}
}

// Ways that are right and wrong, of spare room: none is written into, be it by Clash or by whoever has its texts.
func TestClashWritesNothing(t *testing.T) {
	for _, k := range []int{0, 1, 31, 63, 64, 300, 301, 5000} {
		for _, n := range []int{-1, 0, 1, 2, 3, 8, 9, 64, 1 << 62} {
			for _, i := range []int{-1, 0, 1, n / 2, n - 1, n} {
				for _, length := range []int{0, 1, 2, 3, 4, 6, 7, 62} {
					a, b := guard(k), guard(k+1)
					p, q := guardList(digests(length)), guardList(digests(length))
					first, second, _ := annal.Clash(i, n, a.piece(), p.piece(), b.piece(), q.piece())
					mark(first, 1)
					mark(second, 2)
					checkMarked(t, first, 1)
					checkMarked(t, second, 2)
					a.check(t, "Clash, the first entry")
					b.check(t, "Clash, the second entry")
					p.check(t, "Clash, the first path")
					q.check(t, "Clash, the second path")
				}
			}
		}
	}
}

// All texts of many calls are kept and written over: no two of them, of one call or of two, are one memory.
func TestClashTextsShareNothing(t *testing.T) {
	var texts [][]byte
	for n := 1; n < 10; n++ {
		for i := range n {
			own := shown{[]byte("own"), digests(pathLength(t, i, n))}
			for _, other := range append(others(own), own) {
				for range 2 {
					first, second, _ := annal.Clash(i, n, own.entry, own.path, other.entry, other.path)
					texts = append(texts, first, second)
				}
			}
		}
	}
	for k, text := range texts {
		mark(text, byte(k))
	}
	for k, text := range texts {
		checkMarked(t, text, byte(k))
	}
}

// Both may show one memory: one entry in the other, one path in the other, an entry in a path.
func TestClashOfOverlappingMemory(t *testing.T) {
	for _, c := range []struct{ i, n, length int }{{0, 1, 0}, {1, 2, 1}, {0, 3, 2}, {5, 7, 3}, {63, 64, 6}} {
		memory, list := pattern(100), digests(2*c.length+1)
		for _, from := range []int{0, 1, 50, 100} {
			for at := range c.length + 1 {
				for _, b := range []shown{
					{memory[from:], list[at : at+c.length]},
					{list[at][:], list[at : at+c.length]},
					{list[at][:from%32], list[:c.length]},
				} {
					a := shown{memory[:60], list[:c.length]}
					checkClash(t, "one memory", c.i, c.n, a, b)
					if !bytes.Equal(memory, pattern(100)) || !slices.Equal(list, digests(2*c.length+1)) {
						t.Fatalf("P2: Clash(%d, %d) wrote into what was handed in", c.i, c.n)
					}
				}
			}
		}
	}
}

// The texts stay as they are when what was shown changes, and the next ones are of what is shown then.
func TestClashKeepsNothing(t *testing.T) {
	a, b := []byte("one"), []byte("two")
	p, q := digests(3), digests(3)
	first, second, _ := annal.Clash(5, 7, a, p, b, q)
	ours, _ := wantTexts(wantHash, a, 5, 7, p)
	theirs, _ := wantTexts(wantHash, b, 5, 7, q)
	copy(b, a)
	checkNoClash(t, "alike now", 5, 7, shown{a, p}, shown{b, q})
	a[0], b[0], p[0], q[2] = 'x', 'y', api.Digest{}, api.Digest{}
	if !bytes.Equal(first, ours[3]) || !bytes.Equal(second, theirs[3]) {
		t.Errorf("P2: texts changed with what was shown: %x, %x, want %x, %x", first, second, ours[3], theirs[3])
	}
	checkClash(t, "changed", 5, 7, shown{a, p}, shown{b, q})
}

// The texts of single entries are of one byte more than these: they are no part of the entries.
func TestClashTextsAreNotTheEntries(t *testing.T) {
	for _, n := range edges {
		a, b := guard(n), guard(n+1)
		first, second, _ := annal.Clash(0, 1, a.piece(), nil, b.piece(), nil)
		wantFirst, wantSecond := bytes.Clone(first), bytes.Clone(second)
		a.spoil()
		b.spoil()
		if !bytes.Equal(first, wantFirst) || !bytes.Equal(second, wantSecond) {
			t.Errorf("P2: the texts of entries of %d and %d bytes changed with these", n, n+1)
		}
		if len(first) != n+1 || len(second) != n+2 {
			t.Errorf("P10: the texts of entries of %d and %d bytes have %d and %d", n, n+1, len(first), len(second))
		}
	}
}
