package annal_test

import (
	"bytes"
	"crypto/sha256"
	"encoding/binary"
	"slices"
	"strings"
	"testing"

	"annal/api"
)

// lengthOf is how a file tells a length.
func lengthOf(n uint32) string { return string(binary.BigEndian.AppendUint32(nil, n)) }

// A length above MaxEntry is too long, be the bytes that it asks for there, with the right 32 behind them, or not; where it is the greatest, so that it and 32 run over in 32 bits, too.
func TestLoadOfTooGreatLengths(t *testing.T) {
	key := []byte("key")
	for _, ahead := range [][][]byte{nil, sample(3), small(api.MaxEntries - 1), small(api.MaxEntries)} {
		file := wantFile(key, ahead)
		for _, n := range []uint32{api.MaxEntry + 1, api.MaxEntry + 2, 512, 1 << 16, 1<<16 + 1, 1 << 24, 1 << 31, 1<<31 + 5, 1<<32 - 33, 1<<32 - 32, 1<<32 - 31, 1<<32 - 2, 1<<32 - 1} {
			for _, behind := range []int{0, 1, 3, 30, 31, 32, 33, 64, api.MaxEntry + 1, 1000} {
				checkNoLoad(t, "too great a length", key, file+lengthOf(n)+strings.Repeat("\x00", behind), api.ErrLong, len(file))
			}
		}
		for _, n := range []int{api.MaxEntry + 1, api.MaxEntry + 2, 1000, 1 << 16} {
			checkNoLoad(t, "too long an entry", key, wantFile(key, append(slices.Clone(ahead), pattern(n))), api.ErrLong, len(file))
		}
	}
}

// The greatest length that may be: its bytes are asked for, all of them.
func TestLoadOfTheGreatestLength(t *testing.T) {
	key := []byte("key")
	for _, n := range []int{0, 1, api.MaxEntry - 1, api.MaxEntry} {
		file := wantFile(key, [][]byte{pattern(n)})
		load(t, key, file, [][]byte{pattern(n)}, api.OK)
		load(t, key, file[:len(file)-1], nil, api.ErrShort)
		load(t, key, file[:4], nil, api.ErrShort)
	}
}

// Behind MaxEntries entries no further one may be, not even one that breaks off, or whose tag is another; but less than a length says nothing yet.
func TestLoadOfOneEntryMore(t *testing.T) {
	key := []byte("key")
	entries := small(api.MaxEntries)
	file := wantFile(key, entries)
	for _, n := range []int{0, 1, 5, api.MaxEntry} {
		more := wantFile(key, append(slices.Clone(entries), pattern(n)))
		for _, end := range []int{len(file) + 4, len(file) + 5, len(more) - 1, len(more)} {
			checkNoLoad(t, "an entry more", key, more[:end], api.ErrLong, len(file))
		}
		other := []byte(more)
		other[len(other)-1] ^= 1
		checkNoLoad(t, "an entry more, of another tag", key, string(other), api.ErrLong, len(file))
	}
	checkNoLoad(t, "many more", key, wantFile(key, small(200)), api.ErrLong, len(file))
	for _, more := range []string{"", "\x00", "\xff\xff", "\xff\xff\xff"} {
		want := api.ErrShort
		if more == "" {
			want = api.OK
		}
		l := load(t, key, file+more, entries, want)
		checkTooLong(t, l, nil)
		checkHead(t, "P4", l, key, entries)
	}
}

// A file with a few bytes more is one that breaks off, whatever they are; with a whole length more it is as that length says.
func TestLoadWithBytesMore(t *testing.T) {
	key := []byte("key")
	for _, count := range []int{0, 1, 2, 17} {
		entries := sample(count)
		file := wantFile(key, entries)
		for value := range 256 {
			for n := 1; n < 4; n++ {
				load(t, key, file+strings.Repeat(string([]byte{byte(value)}), n), entries, api.ErrShort)
			}
		}
		for _, n := range []uint32{0, 1, 2, api.MaxEntry - 1, api.MaxEntry} {
			for behind := range int(n) + 32 {
				if behind < 70 || behind > int(n) {
					load(t, key, file+lengthOf(n)+strings.Repeat("\xee", behind), entries, api.ErrShort)
				}
			}
			checkNoLoad(t, "no tag", key, file+lengthOf(n)+strings.Repeat("\xee", int(n)+32), api.ErrTag, len(file))
			checkNoLoad(t, "no tag, and more", key, file+lengthOf(n)+strings.Repeat("\xee", int(n)+99), api.ErrTag, len(file))
		}
	}
}

// records parts a file at its entries.
func records(file string, entries [][]byte) []string {
	at := places(entries)
	var list []string
	for i := range entries {
		list = append(list, file[at[i]:at[i+1]])
	}
	return list
}

// Each entry is bound to all that is ahead of it: none may be left out, told twice or exchanged, but at the end.
func TestLoadOfEntriesOutOfOrder(t *testing.T) {
	key := []byte("key")
	entries := [][]byte{[]byte("same"), []byte("same"), nil, nil, []byte("other"), []byte("same")}
	file, at := wantFile(key, entries), places(entries)
	list := records(file, entries)
	for i := range list {
		without := slices.Delete(slices.Clone(list), i, i+1)
		if i < len(list)-1 {
			checkNoLoad(t, "one left out", key, strings.Join(without, ""), api.ErrTag, at[i])
			exchanged := slices.Clone(list)
			exchanged[i], exchanged[i+1] = exchanged[i+1], exchanged[i]
			checkNoLoad(t, "two exchanged", key, strings.Join(exchanged, ""), api.ErrTag, at[i])
		} else {
			load(t, key, strings.Join(without, ""), entries[:i], api.OK)
		}
		twice := slices.Insert(slices.Clone(list), i, list[i])
		checkNoLoad(t, "one twice", key, strings.Join(twice, ""), api.ErrTag, at[i+1])
	}
	for i := 1; i < len(at)-1; i++ {
		checkNoLoad(t, "without its beginning", key, file[at[i]:], api.ErrTag, 0)
	}
	checkNoLoad(t, "two files", key, file+file, api.ErrTag, len(file))
}

// The 32 bytes of an entry are none that is reckoned in another way.
func TestLoadOfOtherTags(t *testing.T) {
	key, entry := []byte("key"), []byte("entry")
	first, seal := record(key, api.Digest{}, []byte("first"))
	length := lengthOf(uint32(len(entry)))
	head := logOf(t, key, [][]byte{[]byte("first"), entry}).Head()
	for what, tag := range map[string]api.Digest{
		"of the entry alone":          wantTag(key, entry),
		"with noughts ahead":          wantTag(key, slices.Concat(make([]byte, 32), entry)),
		"with the entry ahead":        wantTag(key, slices.Concat([]byte("first"), entry)),
		"with the length":             wantTag(key, slices.Concat(seal[:], []byte(length), entry)),
		"the other way round":         wantTag(key, slices.Concat(entry, seal[:])),
		"by no key":                   wantTag(nil, slices.Concat(seal[:], entry)),
		"a hash":                      wantHash(slices.Concat(seal[:], entry)),
		"a leaf":                      wantLeaf(entry),
		"of the head":                 head.Tag,
		"noughts":                     {},
		"that of the entry ahead":     seal,
		"of the entry and the length": wantTag(key, slices.Concat(seal[:], entry, []byte(length))),
	} {
		checkNoLoad(t, "a tag "+what, key, string(first)+length+string(entry)+string(tag[:]), api.ErrTag, len(first))
	}
	for bit := range 256 {
		_, right := record(key, seal, entry)
		tag := turned(right, bit)
		checkNoLoad(t, "a tag with a bit turned", key, string(first)+length+string(entry)+string(tag[:]), api.ErrTag, len(first))
	}
}

// Where several errors apply, the first entry's comes first, and of one entry the one named first.
func TestLoadTellsTheFirstError(t *testing.T) {
	key := []byte("key")
	good := wantFile(key, [][]byte{[]byte("good")})
	wrong := lengthOf(2) + strings.Repeat("w", 34)
	for _, c := range []struct {
		file  string
		want  api.Errno
		place int
	}{
		{wrong + lengthOf(301), api.ErrTag, 0},
		{wrong + "\x00", api.ErrTag, 0},
		{good + wrong + lengthOf(301), api.ErrTag, len(good)},
		{good + lengthOf(301) + wrong, api.ErrLong, len(good)},
		{good + lengthOf(301), api.ErrLong, len(good)},
		{good + lengthOf(301) + "\x00", api.ErrLong, len(good)},
	} {
		checkNoLoad(t, "several errors", key, c.file, c.want, c.place)
	}
	load(t, key, good+wrong[:37], [][]byte{[]byte("good")}, api.ErrShort)
	load(t, key, good+"\xff\xff\xff", [][]byte{[]byte("good")}, api.ErrShort)
}

// noise makes bytes that hang on a number alone.
func noise(seed, n int) []byte {
	var out []byte
	for k := 0; len(out) < n; k++ {
		d := sha256.Sum256([]byte(lengthOf(uint32(seed)) + lengthOf(uint32(k))))
		out = append(out, d[:]...)
	}
	return out[:n]
}

// Files that are changed at places and by bytes that nobody chose.
func TestLoadOfChangedFiles(t *testing.T) {
	key := []byte("key")
	for seed := range 3000 {
		at := noise(seed, 16)
		entries := small(int(at[0]) % 9)
		file := []byte(wantFile(key, entries))
		from := int(binary.BigEndian.Uint16(at[1:])) % (len(file) + 1)
		to := min(len(file), from+int(at[3])%60)
		var in []byte
		switch at[4] % 4 {
		case 0:
			in = noise(seed, int(at[5])%80)
		case 1:
			in = make([]byte, int(at[5])%80)
		case 2:
			in = bytes.Clone(file[:min(len(file), int(at[5]))])
		}
		checkLoad(t, "a changed file", key, string(slices.Concat(file[:from], in, file[to:])))
	}
}

func TestLoadOfNoise(t *testing.T) {
	for seed := range 500 {
		file := noise(seed, seed)
		checkLoad(t, "noise", nil, string(file))
		copy(file, "\x00\x00\x00")
		checkLoad(t, "noise behind a length", nil, string(file))
	}
}
