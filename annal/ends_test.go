package annal_test

import (
	"math"
	"strings"
	"testing"
	"time"

	"annal/annal"
	"annal/api"
)

// ends fails if the call panics, or has not ended after a time that is long beside what any call needs.
func ends(t *testing.T, what string, call func()) {
	t.Helper()
	done := make(chan any, 1)
	go func() {
		defer func() { done <- recover() }()
		call()
	}()
	select {
	case p := <-done:
		if p != nil {
			t.Errorf("P1: %s panics: %v", what, p)
		}
	case <-time.After(time.Minute):
		t.Fatalf("P1: %s does not end", what)
	}
}

// rows: bytes of the lengths at which something turns, and none at all.
func rows() [][]byte {
	list := [][]byte{nil, {}}
	for _, n := range []int{1, 55, 56, 63, 64, 65, 100, 101, 128, 300, 301, 5000} {
		list = append(list, pattern(n))
	}
	return list
}

// numbers: those at which something turns, and the farthest ones.
var numbers = []int{math.MinInt, math.MinInt + 1, -65, -2, -1, 0, 1, 2, 3, 7, 8, 63, 64, 65, 1 << 20, 1 << 32, 1 << 62, math.MaxInt - 1, math.MaxInt}

func paths() [][]api.Digest {
	return [][]api.Digest{nil, {}, make([]api.Digest, 1), make([]api.Digest, 3), make([]api.Digest, 63), make([]api.Digest, 70)}
}

func TestHashAndTagEnd(t *testing.T) {
	for _, a := range rows() {
		ends(t, "Hash", func() { annal.Hash(a) })
		for _, b := range rows() {
			ends(t, "Tag", func() { annal.Tag(a, b) })
		}
	}
}

// askAll asks a log for all that it tells, at all numbers, and adds to it.
func askAll(l *annal.Log) {
	for _, entry := range rows() {
		l.Append(entry)
	}
	for _, i := range numbers {
		l.Root(i)
		for _, n := range numbers {
			l.Path(i, n)
			l.Link(i, n)
		}
	}
	l.Head()
	l.Save()
}

func TestLogEnds(t *testing.T) {
	for _, key := range rows() {
		ends(t, "New and what it makes", func() {
			if l, e := annal.New(key); e == api.OK {
				askAll(l)
			}
		})
		for _, n := range numbers {
			ends(t, "Signed", func() { annal.Signed(key, api.Head{Size: n}) })
		}
	}
}

func TestLoadedLogEnds(t *testing.T) {
	for _, key := range rows() {
		saved := wantFile(key, sample(3))
		files := []string{"", saved, saved[:len(saved)-1], saved + "\x00", saved + saved, strings.Repeat("\x00", 4), strings.Repeat("\xff", 4), strings.Repeat("\xff", 40)}
		for _, file := range rows() {
			files = append(files, string(file))
		}
		for _, file := range files {
			ends(t, "Load and what it makes", func() {
				if l, e, _ := annal.Load(key, file); e == api.OK || e == api.ErrShort {
					askAll(l)
				}
			})
		}
	}
}

func TestLookingFromOutsideEnds(t *testing.T) {
	entry := pattern(3)
	for _, i := range numbers {
		for _, n := range numbers {
			for _, p := range paths() {
				ends(t, "Climb", func() { annal.Climb(entry, i, n, p) })
				ends(t, "Extends", func() { annal.Extends(i, n, p, api.Digest{}, api.Digest{}) })
				for _, q := range paths() {
					ends(t, "Clash", func() { annal.Clash(i, n, entry, p, nil, q) })
				}
			}
		}
	}
}
