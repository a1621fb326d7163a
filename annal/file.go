package annal

import (
	"slices"
	"strings"

	"annal/api"
	"annal/digest"
)

const (
	lengthWidth = 4                 // bytes of an entry's length in a file
	sealWidth   = len(api.Digest{}) // bytes behind an entry in a file
)

// Save writes the log as a file (P11).
func (l *Log) Save() string {
	var file strings.Builder
	var seal api.Digest
	for _, entry := range l.entries {
		seal = sealOf(l.key, seal, entry)
		file.Write(highestFirst(uint64(len(entry)), lengthWidth))
		file.Write(entry)
		file.Write(seal[:])
	}
	return file.String()
}

// Load reads a file (P11).
func Load(key []byte, file string) (*Log, api.Errno, int) {
	l, e := New(key)
	if e != api.OK {
		return nil, e, 0
	}
	var seal api.Digest
	place := 0
	for place < len(file) {
		entry, found, e := firstOf(file[place:], len(l.entries))
		if e == api.ErrShort {
			return l, e, place
		}
		if e != api.OK {
			return nil, e, place
		}
		seal = sealOf(key, seal, entry)
		if found != seal {
			return nil, api.ErrTag, place
		}
		l.entries = append(l.entries, entry)
		place += lengthWidth + len(entry) + sealWidth
	}
	return l, api.OK, place
}

// sealOf tells the 32 bytes that stand behind an entry in a file. They hang on those of the entry ahead, and so on all that is ahead.
func sealOf(key []byte, ahead api.Digest, entry []byte) api.Digest {
	return digest.Tag(key, slices.Concat(ahead[:], entry))
}

// firstOf tells the first entry of what is left of a file, in new memory, and the 32 bytes found behind it. How many entries were ahead says whether there may be one more.
func firstOf(file string, ahead int) (entry []byte, seal api.Digest, e api.Errno) {
	if len(file) < lengthWidth {
		return nil, seal, api.ErrShort
	}
	length, rest := number(file[:lengthWidth]), file[lengthWidth:]
	if length > api.MaxEntry || ahead >= api.MaxEntries {
		return nil, seal, api.ErrLong
	}
	end := int(length)
	if len(rest) < end+sealWidth {
		return nil, seal, api.ErrShort
	}
	copy(seal[:], rest[end:])
	return []byte(rest[:end]), seal, api.OK
}

// number reads what highestFirst wrote.
func number(text string) uint64 {
	var n uint64
	for i := range len(text) {
		n = n<<8 | uint64(text[i])
	}
	return n
}
