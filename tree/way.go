package tree

import (
	"bytes"
	"slices"

	"annal/api"
)

// Clash tells the highest two texts that are unlike on the ways that Climb goes of a with p and of b with q (i is from 0 to n - 1), and whether these have one hash. It tells none, if all are alike, or one of the paths has another length than that of i in n.
func Clash(i, n int, a []byte, p []api.Digest, b []byte, q []api.Digest) (first, second []byte, same bool) {
	ours, ok := way(a, i, n, p)
	if !ok {
		return nil, nil, false
	}
	theirs, ok := way(b, i, n, q)
	if !ok {
		return nil, nil, false
	}
	return part(ours, theirs)
}

// part goes down two ways with as many texts to where they part.
func part(ours, theirs []text) (first, second []byte, same bool) {
	for k, our := range slices.Backward(ours) {
		their := theirs[k]
		first, second = our(), their()
		if !bytes.Equal(first, second) {
			return first, second, our.hash() == their.hash()
		}
	}
	return nil, nil, false
}

// way tells what is hashed on the way from an entry up to the root: at its leaf, and above that knot by knot. It is not ok, if the path of i in n has another length.
func way(entry []byte, i, n int, path []api.Digest) (texts []text, ok bool) {
	lefts := onLeft(i, n)
	if len(path) != len(lefts) {
		return nil, false
	}
	texts = []text{leafText(entry)}
	for k, other := range path {
		below := texts[k].hash()
		if lefts[k] {
			texts = append(texts, knotText(below, other))
		} else {
			texts = append(texts, knotText(other, below))
		}
	}
	return texts, true
}

// onLeft tells of each knot above the entry with the number i in n, from the lowest up, whether the entry is on its left.
func onLeft(i, n int) []bool {
	if n == 1 {
		return nil
	}
	k := powerBelow(n)
	if i < k {
		return append(onLeft(i, k), true)
	}
	return append(onLeft(i-k, n-k), false)
}
