package annal_test

import (
	"bytes"
	"testing"

	"annal/annal"
	"annal/api"
)

// spoil writes over all the memory, the spare room too.
func (g guarded) spoil() {
	for i := range g.all {
		g.all[i] ^= 0xa5
	}
}

// fill writes one byte over a whole list and its spare room, and appends as its owner may.
func fill(list []api.Digest, with byte) {
	mark := api.Digest(bytes.Repeat([]byte{with}, 32))
	room := list[:cap(list)]
	for i := range room {
		room[i] = mark
	}
	for range 3 {
		list = append(list, mark)
	}
}

func TestKeyIsCopied(t *testing.T) {
	for _, n := range []int{0, 1, 63, 64, 65, api.MaxKey} {
		g, entries := guard(n), sample(5)
		key := bytes.Clone(g.piece())
		l := logOf(t, g.piece(), entries)
		checkLog(t, "P2", l, key, entries)
		g.check(t, "New, the key")
		g.spoil()
		checkLog(t, "P2", l, key, entries)
	}
}

func TestEntriesAreCopied(t *testing.T) {
	l := newLog(t, nil)
	var pieces []guarded
	var entries [][]byte
	for i, n := range edges {
		g := guard(n)
		pieces, entries = append(pieces, g), append(entries, bytes.Clone(g.piece()))
		add(t, l, g.piece(), i)
	}
	checkLog(t, "P2", l, nil, entries)
	for _, g := range pieces {
		g.check(t, "Append, the entry")
		g.spoil()
	}
	checkLog(t, "P2", l, nil, entries)
}

func TestRefusedBytesAreLeftAlone(t *testing.T) {
	key, entry := guard(api.MaxKey+1), guard(api.MaxEntry+1)
	annal.New(key.piece())
	key.check(t, "New, a long key")
	newLog(t, nil).Append(entry.piece())
	entry.check(t, "Append, a long entry")
}

// One piece of memory may carry all entries, one after the other, and may be the key's.
func TestOneMemoryForAllEntries(t *testing.T) {
	memory := make([]byte, api.MaxEntry)
	key := bytes.Clone(memory[:api.MaxKey])
	l := newLog(t, memory[:api.MaxKey])
	entries := sample(20)
	for i, e := range entries {
		copy(memory, e)
		add(t, l, memory[:len(e)], i)
	}
	clear(memory)
	checkLog(t, "P2", l, key, entries)
}

// Each list is filled with a mark of its own: one that shared memory with a later one would show the later one's.
func TestListsAreTheCallers(t *testing.T) {
	key := []byte("key")
	entries := sample(17)
	l := logOf(t, key, entries)
	var lists [][]api.Digest
	for n := range len(entries) + 1 {
		for i := range n + 1 {
			for range 2 {
				path, _ := l.Path(i, n)
				link, _ := l.Link(i, n)
				lists = append(lists, path, link)
			}
		}
	}
	for i, list := range lists {
		fill(list, byte(i))
	}
	for i, list := range lists {
		for _, d := range list[:cap(list)] {
			if want := api.Digest(bytes.Repeat([]byte{byte(i)}, 32)); d != want {
				t.Fatalf("P2: two lists that came out share memory")
			}
		}
	}
	checkLog(t, "P2", l, key, entries)
	add(t, l, pattern(5), len(entries))
	checkLog(t, "P2", l, key, append(entries, pattern(5)))
}

// A list stays as it is when the log grows and is asked again.
func TestListsStayAsTheyAre(t *testing.T) {
	entries := sample(api.MaxEntries)
	l := logOf(t, nil, entries[:11])
	path, _ := l.Path(10, 11)
	link, _ := l.Link(10, 11)
	for i, e := range entries[11:] {
		add(t, l, e, 11+i)
		l.Path(i, 11+i)
		l.Link(i, 11+i)
	}
	checkList(t, "a path that came out before the log grew", path, api.OK, wantPath(entries[:11], 10)...)
	if !linkHolds(10, 11, link, wantRoot(entries[:10]), wantRoot(entries[:11])) {
		t.Errorf("P2: a link changed when the log grew: %x", link)
	}
}

// Two logs take turns, with the key and the entries of both in one memory.
func TestLogsShareNothing(t *testing.T) {
	memory := []byte("one")
	one := newLog(t, memory)
	copy(memory, "two")
	two := newLog(t, memory)
	var ones, twos [][]byte
	for i := range 20 {
		copy(memory, []byte{byte(i), 1, 2})
		add(t, one, memory, i)
		ones = append(ones, bytes.Clone(memory))
		if i%2 == 0 {
			memory[0] ^= 0xff
			add(t, two, memory[:2], i/2)
			twos = append(twos, bytes.Clone(memory[:2]))
		}
		checkHead(t, "P2", one, []byte("one"), ones)
		checkHead(t, "P2", two, []byte("two"), twos)
	}
	checkLog(t, "P2", one, []byte("one"), ones)
	checkLog(t, "P2", two, []byte("two"), twos)
}
