package tree

import (
	"bytes"
	"math"
	"testing"

	"annal/api"
)

func TestPowerBelow(t *testing.T) {
	for n := 2; n <= 1100; n++ {
		want := 1
		for want*2 < n {
			want *= 2
		}
		if got := powerBelow(n); got != want {
			t.Errorf("P5: the greatest power of two below %d = %d, want %d", n, got, want)
		}
	}
	for n, want := range map[int]int{1 << 62: 1 << 61, 1<<62 + 1: 1 << 62, math.MaxInt: 1 << 62} {
		if got := powerBelow(n); got != want {
			t.Errorf("P5: the greatest power of two below %d = %d, want %d", n, got, want)
		}
	}
}

func TestTextsOfPlaces(t *testing.T) {
	for _, c := range []struct{ entry, want string }{{"", "\x00"}, {"abc", "\x00abc"}, {"\x00\x01", "\x00\x00\x01"}} {
		if got := (place{entry: []byte(c.entry)}).leaf(); string(got) != c.want {
			t.Errorf("P5: the text of a leaf of %q = %q, want %q", c.entry, got, c.want)
		}
	}
	left, right := api.Digest(bytes.Repeat([]byte("l"), 32)), api.Digest(bytes.Repeat([]byte("r"), 32))
	want := "\x01llllllllllllllllllllllllllllllllrrrrrrrrrrrrrrrrrrrrrrrrrrrrrrrr"
	if got := (place{left: left, right: right}).knot(); string(got) != want {
		t.Errorf("P5: the text of a knot = %q, want %q", got, want)
	}
}

// written is a way of texts that are written out, one byte each.
func written(all string) []text {
	var list []text
	for i := range len(all) {
		list = append(list, func() []byte { return []byte{all[i]} })
	}
	return list
}

// Ways that are unlike at any of their texts, which no true ones are: the highest is told.
func TestPartTellsTheHighest(t *testing.T) {
	const ours = "abcdef"
	for length := 1; length <= len(ours); length++ {
		for unlike := range 1 << length {
			theirs := []byte(ours[:length])
			highest := -1
			for k := range theirs {
				if unlike>>k&1 == 1 {
					theirs[k], highest = theirs[k]-'a'+'A', k
				}
			}
			first, second, same := part(written(ours[:length]), written(string(theirs)))
			if highest < 0 {
				if first != nil || second != nil || same {
					t.Errorf("P10: two ways that are alike part at %q, %q, %v", first, second, same)
				}
				continue
			}
			if string(first) != ours[highest:highest+1] || string(second) != string(theirs[highest:highest+1]) || same {
				t.Errorf("P10: %q and %q part at %q, %q, %v, want the text %d, false", ours[:length], theirs, first, second, same, highest)
			}
		}
	}
}

// A text is new memory each time it is told, apart from the entry's.
func TestTextsShareNothing(t *testing.T) {
	all := []byte("-entry-and what stands behind it")
	entry := all[1:6]
	p := place{entry: entry}
	text := p.leaf()
	text = text[:cap(text)]
	for i := range text {
		text[i] = '!'
	}
	if string(all) != "-entry-and what stands behind it" {
		t.Errorf("P2: writing into a text wrote into the entry's memory: %q", all)
	}
	if got := p.leaf(); string(got) != "\x00entry" {
		t.Errorf("P2: writing into a text changed the next one: %q", got)
	}
}
