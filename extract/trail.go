package extract

import (
	"math/bits"
	"slices"

	"planchet/api"
	"planchet/log"
	"planchet/proof"
	"planchet/ptree"
)

// The first bytes of what is summed.
const (
	forText  = 0 // of an entry, or of a text of a log
	forNode  = 1
	forNone  = 2 // of a place without an entry
	forValue = 2
)

// joined returns what is summed: a first byte and the parts.
func joined(first byte, parts ...[]byte) []byte {
	return append([]byte{first}, slices.Concat(parts...)...)
}

// TreeTrail returns the trail of a side.
func TreeTrail(index api.Digest, s Side) [][]byte {
	x, last := ptree.Empty()[0], []byte{forNone}
	if s.Present {
		x = ptree.Leaf(ptree.Entry{Index: index, Commitment: s.Commitment})
		last = joined(forText, index[:], s.Commitment[:])
	}
	if _, e := proof.Climb(x, index, s.Proof); e != api.OK {
		return nil
	}
	up, end := climber(x, last)
	rest := s.Proof.Nodes
	for k, sibling := range ptree.Empty()[:ptree.Depth] {
		if s.Proof.Known[k/8]>>(k%8)&1 == 1 {
			sibling, rest = rest[0], rest[1:]
		}
		up(sibling, ptree.Bit(index, k) == 1)
	}
	return end()
}

// TextTrail returns the trail of a text at a place of a log, with a path.
func TextTrail(n, i int, text []byte, way []api.Digest) [][]byte {
	if n < 1 || n > log.Most || i < 0 || i >= n {
		return nil
	}
	sides := textSides(n, i)
	if len(way) != len(sides) {
		return nil
	}
	return climbed(log.Leaf(text), joined(forText, text), way, sides)
}

// GrowTrail returns the trail of a log that grows, with a path.
func GrowTrail(a api.Digest, m, n int, way []api.Digest) [][]byte {
	if m < 1 || m > n || n > log.Most {
		return nil
	}
	x := a
	sides, cut := growSides(m, n)
	if cut { // then the path begins with what the beginning ends with
		if len(way) == 0 {
			return nil
		}
		x, way = way[0], way[1:]
	}
	if len(way) != len(sides) {
		return nil
	}
	return climbed(x, nil, way, sides)
}

// textSides returns, from the lowest node of a log on, whether the one below it on the way to a
// text is the right one.
func textSides(n, i int) []bool {
	var sides []bool
	for n > 1 {
		k := half(n)
		right := i >= k
		if right {
			n, i = n-k, i-k
		} else {
			n = k
		}
		sides = append(sides, right)
	}
	slices.Reverse(sides)
	return sides
}

// growSides returns the same on the way to the end of a beginning, as far as there is something
// behind it; and whether something before it was cut off.
func growSides(m, n int) ([]bool, bool) {
	var sides []bool
	cut := false
	for m < n {
		k := half(n)
		right := m > k
		if right {
			n, m = n-k, m-k
		} else {
			n = k
		}
		cut = cut || right
		sides = append(sides, right)
	}
	slices.Reverse(sides)
	return sides, cut
}

// half returns how many the first texts of several are: the greatest power of 2 that is less than n.
func half(n int) int {
	return 1 << (bits.Len(uint(n-1)) - 1)
}

// climbed returns the trail that ends at a digest, or at its text, if there is one.
func climbed(x api.Digest, last []byte, way []api.Digest, sides []bool) [][]byte {
	up, end := climber(x, last)
	for i, sibling := range way {
		up(sibling, sides[i])
	}
	return end()
}

// climber returns a function that climbs to the node above, and one that returns the trail, from the top on.
func climber(x api.Digest, last []byte) (func(sibling api.Digest, right bool), func() [][]byte) {
	var trail [][]byte
	if last != nil {
		trail = append(trail, last)
	}
	up := func(sibling api.Digest, right bool) {
		a, b := x, sibling
		if right {
			a, b = sibling, x
		}
		trail = append(trail, joined(forNode, a[:], b[:]))
		x = ptree.Node(a, b)
	}
	end := func() [][]byte {
		slices.Reverse(trail)
		return trail
	}
	return up, end
}
