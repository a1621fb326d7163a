package annal_test

import (
	"bytes"
	"testing"

	"annal/annal"
	"annal/api"
)

func TestLoadWritesNothingAndKeepsNothing(t *testing.T) {
	entries := sample(5)
	for _, n := range []int{0, 1, 63, 64, 65, api.MaxKey} {
		for _, more := range []string{"", "\x00\x00"} {
			want := api.OK
			if more != "" {
				want = api.ErrShort
			}
			g := guard(n)
			key := bytes.Clone(g.piece())
			l := load(t, g.piece(), wantFile(key, entries)+more, entries, want)
			g.check(t, "Load, the key")
			g.spoil()
			checkLog(t, "P2", l, key, entries)
			checkSave(t, "P2", l, key, entries)
			add(t, l, pattern(9), len(entries))
			checkSave(t, "P2", l, key, append(sample(5), pattern(9)))
		}
	}
}

func TestLoadThatFailsWritesNothing(t *testing.T) {
	for _, n := range append([]int{api.MaxKey + 1, 5000}, edges...) {
		for _, file := range []string{"", "\xff\xff\xff\xff", "\x00\x00\x00", wantFile([]byte("another key"), sample(3))} {
			g := guard(n)
			annal.Load(g.piece(), file)
			g.check(t, "Load that may fail, the key")
		}
	}
}

func TestLoadedEntriesAreCopied(t *testing.T) {
	l := load(t, nil, wantFile(nil, small(3)), small(3), api.OK)
	g := guard(100)
	entry := bytes.Clone(g.piece())
	add(t, l, g.piece(), 3)
	g.check(t, "Append to a loaded log, the entry")
	g.spoil()
	checkLog(t, "P2", l, nil, append(small(3), entry))
}

// The file may be the bytes of one memory, one file after the other.
func TestOneMemoryForAllFiles(t *testing.T) {
	key, entries := []byte("key"), sample(12)
	memory := make([]byte, len(wantFile(key, entries)))
	var logs []*annal.Log
	for n := range len(entries) + 1 {
		file := wantFile(key, entries[:n])
		copy(memory, file)
		logs = append(logs, load(t, key, string(memory[:len(file)]), entries[:n], api.OK))
	}
	clear(memory)
	for n, l := range logs {
		checkLog(t, "P2", l, key, entries[:n])
	}
}

// Logs of one file, and the one that wrote it, go on each in its own way.
func TestLoadedLogsShareNothing(t *testing.T) {
	key := []byte("key")
	for count := range 10 {
		entries := sample(count)
		saved := logOf(t, key, entries)
		file := saved.Save()
		logs := []*annal.Log{saved}
		for _, more := range []string{"", "", "\x00"} {
			l, _, _ := annal.Load(key, file+more)
			logs = append(logs, l)
		}
		lists := make([][][]byte, len(logs))
		for k := range logs {
			lists[k] = sample(count)
		}
		for i := range 5 {
			for k, l := range logs {
				entry := []byte{byte(i), byte(k)}
				add(t, l, entry, count+i)
				lists[k] = append(lists[k], entry)
			}
		}
		for k, l := range logs {
			checkLog(t, "P2", l, key, lists[k])
			checkSave(t, "P2", l, key, lists[k])
		}
		if file != wantFile(key, entries) {
			t.Errorf("P2: a file of %d entries changed when logs went on", count)
		}
	}
}

// A file stays as it is when the log grows, and the log as it is when it is saved.
func TestSavesStayAsTheyAre(t *testing.T) {
	key, entries := []byte("key"), sample(20)
	l := newLog(t, key)
	var files []string
	for n, entry := range entries {
		files = append(files, l.Save(), l.Save())
		checkHead(t, "P2", l, key, entries[:n])
		add(t, l, entry, n)
	}
	for k, file := range files {
		if file != wantFile(key, entries[:k/2]) {
			t.Errorf("P2: the file of %d entries changed when the log grew", k/2)
		}
	}
	checkLog(t, "P2", l, key, entries)
}

// The lists of a loaded log are the caller's, as those of any other.
func TestListsOfALoadedLogAreTheCallers(t *testing.T) {
	key, entries := []byte("key"), sample(9)
	l := load(t, key, wantFile(key, entries), entries, api.OK)
	for n := range len(entries) + 1 {
		for i := range n + 1 {
			path, _ := l.Path(i, n)
			link, _ := l.Link(i, n)
			fill(path, 1)
			fill(link, 2)
		}
	}
	checkLog(t, "P2", l, key, entries)
	checkSave(t, "P2", l, key, entries)
}
