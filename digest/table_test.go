package digest

import (
	"math/big"
	"testing"
)

// primes tells the first n of them.
func primes(n int) []int64 {
	var list []int64
	for p := int64(2); len(list) < n; p++ {
		if big.NewInt(p).ProbablyPrime(0) {
			list = append(list, p)
		}
	}
	return list
}

// fraction tells the first 32 bits behind the point of the root of p, by halving: the greatest x with x^degree not above p * 2^(32 * degree).
func fraction(p int64, degree int64) uint32 {
	bound := new(big.Int).Lsh(big.NewInt(p), uint(32*degree))
	low, high := uint64(0), uint64(1)<<40
	for high-low > 1 {
		middle := (low + high) / 2
		power := new(big.Int).Exp(new(big.Int).SetUint64(middle), big.NewInt(degree), nil)
		if power.Cmp(bound) <= 0 {
			low = middle
		} else {
			high = middle
		}
	}
	return uint32(low)
}

func TestStartIsSquareRoots(t *testing.T) {
	for i, p := range primes(len(start)) {
		if want := fraction(p, 2); start[i] != want {
			t.Errorf("P3: start[%d] = %08x, want %08x of the square root of %d", i, start[i], want, p)
		}
	}
}

func TestRoundsAreCubeRoots(t *testing.T) {
	for i, p := range primes(len(rounds)) {
		if want := fraction(p, 3); rounds[i] != want {
			t.Errorf("P3: rounds[%d] = %08x, want %08x of the cube root of %d", i, rounds[i], want, p)
		}
	}
}

// The tables are the same memory for all calls: a call that stirred them would spoil the next one.
func TestTablesStayAsTheyAre(t *testing.T) {
	startBefore, roundsBefore := start, rounds
	for n := range 200 {
		Tag(make([]byte, n), make([]byte, n))
	}
	if start != startBefore || rounds != roundsBefore {
		t.Errorf("P2: a call wrote into the tables")
	}
}
