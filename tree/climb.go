package tree

import "annal/api"

// Climb tells the root that n entries have of which the one with the number i (from 0 to n - 1) is the entry, with this path. It is not ok, if the path of i in n has another length.
func Climb(entry []byte, i, n int, path []api.Digest) (root api.Digest, ok bool) {
	texts, ok := way(entry, i, n, path)
	if !ok {
		return api.Digest{}, false
	}
	return texts[len(path)].hash(), true
}

// Grow tells the roots of the first m and of all n entries (m from 1 to n) that come of a link between them. Where no digest of the link stands for the root of the m, known does. It is not ok, if a link from m to n has another length.
func Grow(m, n int, link []api.Digest, known api.Digest) (old, now api.Digest, ok bool) {
	return grow(m, n, link, known, true)
}

// grow goes back over the part of a link that sub tells.
func grow(m, n int, link []api.Digest, known api.Digest, whole bool) (old, now api.Digest, ok bool) {
	if m == n && whole {
		return known, known, len(link) == 0
	}
	rest, top, ok := cut(link)
	if !ok {
		return api.Digest{}, api.Digest{}, false
	}
	if m == n {
		return top, top, len(rest) == 0
	}
	k := powerBelow(n)
	if m <= k {
		old, now, ok = grow(m, k, rest, known, whole)
		return old, knotOf(now, top), ok
	}
	old, now, ok = grow(m-k, n-k, rest, known, false)
	return knotOf(top, old), knotOf(top, now), ok
}

// cut takes the last digest off a list, if there is one: it stands for the other side of the highest knot.
func cut(list []api.Digest) (rest []api.Digest, top api.Digest, ok bool) {
	last := len(list) - 1
	if last < 0 {
		return nil, api.Digest{}, false
	}
	return list[:last], list[last], true
}
