package annal_test

import (
	"encoding/binary"
	"encoding/hex"
	"errors"
	"io"
	"slices"
	"strings"
	"testing"

	"annal/annal"
	"annal/api"
)

const frame = 4 + 32 // bytes of a file that stand around an entry

// record is an entry as it stands in a file behind the one with these 32 bytes, and its own 32 bytes.
func record(key []byte, ahead api.Digest, entry []byte) ([]byte, api.Digest) {
	seal := wantTag(key, slices.Concat(ahead[:], entry))
	length := binary.BigEndian.AppendUint32(nil, uint32(len(entry)))
	return slices.Concat(length, entry, seal[:]), seal
}

// wantFile is the file of these entries, as long and as many as they may be.
func wantFile(key []byte, entries [][]byte) string {
	var file []byte
	var seal api.Digest
	for _, entry := range entries {
		var r []byte
		r, seal = record(key, seal, entry)
		file = append(file, r...)
	}
	return string(file)
}

// places are where the entries of such a file begin, and where it ends.
func places(entries [][]byte) []int {
	list := []int{0}
	for i, entry := range entries {
		list = append(list, list[i]+len(entry)+frame)
	}
	return list
}

// wantLoad reads a file as one reads a stream; the entries are told with ErrShort too.
func wantLoad(key []byte, file string) (entries [][]byte, e api.Errno, place int) {
	in := strings.NewReader(file)
	var seal api.Digest
	for {
		place = len(file) - in.Len()
		var length [4]byte
		if _, err := io.ReadFull(in, length[:]); err == io.EOF {
			return entries, api.OK, place
		} else if err != nil {
			return entries, api.ErrShort, place
		}
		size := int64(binary.BigEndian.Uint32(length[:]))
		if size > api.MaxEntry || len(entries) == api.MaxEntries {
			return nil, api.ErrLong, place
		}
		entry, tag := make([]byte, size), make([]byte, 32)
		_, err := io.ReadFull(in, entry)
		_, err2 := io.ReadFull(in, tag)
		if errors.Join(err, err2) != nil {
			return entries, api.ErrShort, place
		}
		_, seal = record(key, seal, entry)
		if seal != api.Digest(tag) {
			return nil, api.ErrTag, place
		}
		entries = append(entries, entry)
	}
}

func checkSave(t *testing.T, promise string, l *annal.Log, key []byte, entries [][]byte) {
	t.Helper()
	if got, want := l.Save(), wantFile(key, entries); got != want {
		t.Errorf("%s: Save() of %d entries, a key of %d bytes = %x, want %x", promise, len(entries), len(key), got, want)
	}
}

// load loads a file that must tell a log of these entries, be it all that the file has (OK) or what is ahead of its break (ErrShort).
func load(t *testing.T, key []byte, file string, entries [][]byte, want api.Errno) *annal.Log {
	t.Helper()
	l, e, place := annal.Load(key, file)
	if l == nil || e != want || place != places(entries)[len(entries)] {
		t.Fatalf("P11: Load of %d bytes, a key of %d = %v, %d, %d, want a log, %d, %d", len(file), len(key), l, e, place, want, places(entries)[len(entries)])
	}
	checkHead(t, "P11", l, key, entries)
	checkSave(t, "P11", l, key, entries)
	return l
}

func checkNoLoad(t *testing.T, what string, key []byte, file string, want api.Errno, wantPlace int) {
	t.Helper()
	if l, e, place := annal.Load(key, file); l != nil || e != want || place != wantPlace {
		t.Errorf("P11: %s: Load of %d bytes, a key of %d = %v, %d, %d, want nil, %d, %d", what, len(file), len(key), l, e, place, want, wantPlace)
	}
}

// checkLoad holds Load against the reference.
func checkLoad(t *testing.T, what string, key []byte, file string) {
	t.Helper()
	entries, e, place := wantLoad(key, file)
	if e == api.OK || e == api.ErrShort {
		load(t, key, file, entries, e)
	} else {
		checkNoLoad(t, what, key, file, e, place)
	}
}

var keyLengths = []int{0, 1, 31, 32, 33, 63, 64, 65, 99, api.MaxKey}

// small: entries that are short, so that a file of many can be gone through byte by byte.
func small(n int) [][]byte {
	var list [][]byte
	for i := range n {
		list = append(list, pattern(i*5%7))
	}
	return list
}

// What a library of another language tells.
func TestSaveOfAKnownLog(t *testing.T) {
	entries := [][]byte{[]byte("abc"), nil, []byte("abc")}
	want := "000000036162633592a44e4bf9c3dfad8d2ccc8a6679470796c54e0db325f4c3bcbcab8409862c" +
		"00000000716ba77c2cf011dd10f1d7437fd86472862f16be055191085f894b3948bf95f7" +
		"00000003616263687c1e4d0d19478fb935d3b4adccd40bacd806381b5c55d3c4a96ea5d7c339e6"
	if got := hex.EncodeToString([]byte(logOf(t, []byte("key"), entries).Save())); got != want {
		t.Errorf("P11: Save = %s, want %s", got, want)
	}
	file, err := hex.DecodeString(want)
	if err != nil {
		t.Fatal(err)
	}
	checkLog(t, "P11", load(t, []byte("key"), string(file), entries, api.OK), []byte("key"), entries)
}

func TestSaveAndLoadOfNothing(t *testing.T) {
	for _, k := range keyLengths {
		l := newLog(t, pattern(k))
		if got := l.Save(); got != "" {
			t.Errorf("P11: Save() of no entries = %q", got)
		}
		l = load(t, pattern(k), "", nil, api.OK)
		checkLog(t, "P11", l, pattern(k), nil)
		add(t, l, []byte("first"), 0)
		checkLog(t, "P12", l, pattern(k), [][]byte{[]byte("first")})
	}
	load(t, nil, "", nil, api.OK)
	load(t, []byte{}, "", nil, api.OK)
}

func TestSaveAndLoadAtEveryCount(t *testing.T) {
	entries := sample(api.MaxEntries)
	for _, k := range keyLengths {
		key := pattern(k)
		l := newLog(t, key)
		for n, entry := range entries {
			checkSave(t, "P11", l, key, entries[:n])
			load(t, key, l.Save(), entries[:n], api.OK)
			add(t, l, entry, n)
		}
		checkSave(t, "P11", l, key, entries)
		load(t, key, l.Save(), entries, api.OK)
	}
}

func TestSaveAndLoadAtEveryLength(t *testing.T) {
	key := []byte("key")
	for n := range api.MaxEntry + 1 {
		entries := [][]byte{pattern(n), pattern(api.MaxEntry - n), pattern(n)}
		l := logOf(t, key, entries)
		checkSave(t, "P11", l, key, entries)
		load(t, key, l.Save(), entries, api.OK)
	}
}

func TestSaveAndLoadAtEveryKeyLength(t *testing.T) {
	entries := sample(3)
	for n := range api.MaxKey + 1 {
		l := logOf(t, pattern(n), entries)
		checkSave(t, "P11", l, pattern(n), entries)
		load(t, pattern(n), l.Save(), entries, api.OK)
	}
}

// A key that is too long is the first error, whatever the file is, and its place is 0.
func TestLoadByTooLongKeys(t *testing.T) {
	for _, n := range []int{api.MaxKey + 1, api.MaxKey + 2, 128, 5000} {
		key, file := pattern(n), wantFile(pattern(n), sample(3))
		for _, f := range []string{"", "\x00", "\xff\xff\xff\xff", file, file[:50], file + "\x00", wantFile([]byte("key"), sample(3)), wantFile(key, sample(api.MaxEntries+1))} {
			checkNoLoad(t, "a key that is too long", key, f, api.ErrLong, 0)
		}
	}
}

func TestLoadByAnotherKey(t *testing.T) {
	for _, k := range keyLengths {
		key := slices.Repeat([]byte{7}, k)
		file := wantFile(key, sample(3))
		for _, other := range otherKeys(key) {
			if len(other) <= api.MaxKey {
				checkNoLoad(t, "another key", other, file, api.ErrTag, 0)
			}
		}
	}
}

// Every beginning of a Save loads the entries that are whole in it.
func TestLoadOfEveryBeginning(t *testing.T) {
	key := []byte("key")
	for _, entries := range [][][]byte{sample(9), small(api.MaxEntries), {pattern(api.MaxEntry), nil, nil, pattern(api.MaxEntry)}} {
		file := logOf(t, key, entries).Save()
		at := places(entries)
		for cut := range len(file) + 1 {
			whole, is := slices.BinarySearch(at, cut)
			if is {
				load(t, key, file[:cut], entries[:whole], api.OK)
			} else {
				load(t, key, file[:cut], entries[:whole-1], api.ErrShort)
			}
		}
	}
}

// What was loaded goes on as the log would have that was saved there.
func TestLoadedLogsGoOn(t *testing.T) {
	key, entries := pattern(70), sample(api.MaxEntries)
	saved := newLog(t, key)
	for n, entry := range entries {
		file := saved.Save()
		for _, more := range []string{"", "\x00", "\x00\x00\x01\x2c", strings.Repeat("\x00", 35)} {
			want := api.ErrShort
			if more == "" {
				want = api.OK
			}
			loaded := load(t, key, file+more, entries[:n], want)
			checkTooLong(t, loaded, pattern(api.MaxEntry+1))
			last := min(n+3, len(entries))
			for i := n; i < last; i++ {
				add(t, loaded, entries[i], i)
				checkSave(t, "P12", loaded, key, entries[:i+1])
			}
			if more == "" && slices.Contains(turns, n) {
				checkLog(t, "P12", loaded, key, entries[:last])
			}
		}
		checkHead(t, "P2", saved, key, entries[:n])
		add(t, saved, entry, n)
	}
	full := load(t, key, saved.Save(), entries, api.OK)
	checkTooLong(t, full, nil)
	checkLog(t, "P12", full, key, entries)
}

// A loaded log tells no entry and no number that the saved one does not tell.
func TestLoadedLogsAtWrongNumbers(t *testing.T) {
	entries := sample(5)
	for _, more := range []string{"", "\x00\x00"} {
		l, _, _ := annal.Load(nil, wantFile(nil, entries)+more)
		for _, i := range around(len(entries)) {
			root, e := l.Root(i)
			if (i < 0 || i > len(entries)) && (root != api.Digest{} || e != api.ErrArg) {
				t.Errorf("P12: Root(%d) of a loaded log of %d = %x, %d, want noughts and ErrArg", i, len(entries), root, e)
			}
			for _, n := range around(len(entries)) {
				got, e := l.Path(i, n)
				checkNumbers(t, "Path", i, n, len(entries), 0 <= i && i < n && n <= len(entries), got, e)
				got, e = l.Link(i, n)
				checkNumbers(t, "Link", i, n, len(entries), 0 <= i && i <= n && n <= len(entries), got, e)
			}
		}
		checkLog(t, "P1", l, nil, entries)
		checkSave(t, "P1", l, nil, entries)
	}
}

// With any one byte another one, the entry that it belongs to is the first that does not load.
func TestLoadWithAnotherByte(t *testing.T) {
	key, entries := []byte("key"), [][]byte{pattern(3), nil, pattern(40), pattern(api.MaxEntry), pattern(1), nil}
	file, at := wantFile(key, entries), places(entries)
	for k := range len(file) {
		for _, mask := range []byte{1, 2, 4, 8, 16, 32, 64, 128, 255} {
			other := []byte(file)
			other[k] ^= mask
			checkLoad(t, "another byte", key, string(other))
			whole, is := slices.BinarySearch(at, k)
			if !is {
				whole--
			}
			if l, e, place := annal.Load(key, string(other)); e == api.OK || place != at[whole] || l != nil && e != api.ErrShort {
				t.Errorf("P11: Load with the byte %d another one = %v, %d, %d, want an error at %d", k, l, e, place, at[whole])
			}
		}
	}
}

// Every value of each byte of a length.
func TestLoadWithAnotherLength(t *testing.T) {
	key, entries := []byte("key"), [][]byte{pattern(260), pattern(5), pattern(280)}
	file := wantFile(key, entries)
	for _, from := range places(entries)[:3] {
		for k := range 4 {
			for value := range 256 {
				other := []byte(file)
				other[from+k] = byte(value)
				checkLoad(t, "another length", key, string(other))
			}
		}
	}
}
