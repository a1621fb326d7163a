package annal_test

import (
	"math"
	"testing"
	"time"

	"annal/annal"
	"annal/api"
)

// ends fails if the call panics, or has not ended after a time that is long beside what any call needs.
func ends(t *testing.T, what string, call func()) {
	t.Helper()
	done := make(chan any, 1)
	go func() {
		defer func() { done <- recover() }()
		call()
	}()
	select {
	case p := <-done:
		if p != nil {
			t.Errorf("P1: %s panics: %v", what, p)
		}
	case <-time.After(time.Minute):
		t.Fatalf("P1: %s does not end", what)
	}
}

// rows: bytes of the lengths at which something turns, and none at all.
func rows() [][]byte {
	list := [][]byte{nil, {}}
	for _, n := range []int{1, 55, 56, 63, 64, 65, 100, 101, 128, 300, 301, 5000} {
		list = append(list, pattern(n))
	}
	return list
}

// numbers: those at which something turns, and the farthest ones.
var numbers = []int{math.MinInt, math.MinInt + 1, -65, -2, -1, 0, 1, 2, 3, 7, 8, 63, 64, 65, 1 << 20, 1 << 32, 1 << 62, math.MaxInt - 1, math.MaxInt}

func paths() [][]api.Digest {
	return [][]api.Digest{nil, {}, make([]api.Digest, 1), make([]api.Digest, 3), make([]api.Digest, 63), make([]api.Digest, 70)}
}

func TestHashAndTagEnd(t *testing.T) {
	for _, a := range rows() {
		ends(t, "Hash", func() { annal.Hash(a) })
		for _, b := range rows() {
			ends(t, "Tag", func() { annal.Tag(a, b) })
		}
	}
}

func TestLogEnds(t *testing.T) {
	for _, key := range rows() {
		ends(t, "New and what it makes", func() {
			log, e := annal.New(key)
			if e != api.OK {
				return
			}
			for _, entry := range rows() {
				log.Append(entry)
			}
			for _, i := range numbers {
				log.Root(i)
				for _, n := range numbers {
					log.Path(i, n)
					log.Link(i, n)
				}
			}
			log.Head()
			annal.Load(key, log.Save())
		})
		for _, file := range rows() {
			ends(t, "Load", func() { annal.Load(key, string(file)) })
		}
		for _, n := range numbers {
			ends(t, "Signed", func() { annal.Signed(key, api.Head{Size: n}) })
		}
	}
}

func TestLookingFromOutsideEnds(t *testing.T) {
	entry := pattern(3)
	for _, i := range numbers {
		for _, n := range numbers {
			for _, p := range paths() {
				ends(t, "Climb", func() { annal.Climb(entry, i, n, p) })
				ends(t, "Extends", func() { annal.Extends(i, n, p, api.Digest{}, api.Digest{}) })
				for _, q := range paths() {
					ends(t, "Clash", func() { annal.Clash(i, n, entry, p, nil, q) })
				}
			}
		}
	}
}
