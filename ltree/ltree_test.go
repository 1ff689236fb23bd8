package ltree_test

import (
	"crypto/sha256"
	"slices"
	"testing"

	"planchet/api"
	"planchet/keyed"
	"planchet/ltree"
)

var (
	pub = api.Digest{31: 9}
	at  = api.Adrs{1, 2, 3, 1, 5, 66, 77, 88}
)

func some(n int) []api.Digest {
	l := make([]api.Digest, n)
	for i := range l {
		l[i] = api.Digest(sha256.Sum256([]byte{byte(i)}))
	}
	return l
}

// join is to join, as the document describes it.
func join(a, b api.Digest, five, six uint32) api.Digest {
	var k [3]api.Digest
	for i := range k {
		k[i] = keyed.At(pub, api.Adrs{1, 2, 3, 1, 5, five, six, uint32(i)})
	}
	return keyed.H(k[0], keyed.Mask(a, k[1]), keyed.Mask(b, k[2]))
}

func TestJoin(t *testing.T) { // P9.1
	l := some(2)
	want := join(l[0], l[1], 66, 77)
	if ltree.Join(l[0], l[1], pub, at) != want {
		t.Error("Join")
	}
	if ltree.Join(l[1], l[0], pub, at) != join(l[1], l[0], 66, 77) || ltree.Join(l[1], l[0], pub, at) == want {
		t.Error("Join, the other way round")
	}
	for i := range 8 {
		a := at
		a[i]++
		if (ltree.Join(l[0], l[1], pub, a) == want) != (i == 7) {
			t.Errorf("word %d", i)
		}
	}
	if ltree.Join(l[0], l[1], api.Digest{}, at) == want {
		t.Error("the public seed")
	}
}

func TestCompress(t *testing.T) { // P9.1
	for n := 1; n <= 67; n++ {
		nodes := some(n)
		for level := uint32(0); len(nodes) > 1; level++ {
			var next []api.Digest
			for i := 0; i+1 < len(nodes); i += 2 {
				next = append(next, join(nodes[i], nodes[i+1], level, uint32(i/2)))
			}
			if len(nodes)%2 == 1 {
				next = append(next, nodes[len(nodes)-1])
			}
			nodes = next
		}
		if got, e := ltree.Compress(some(n), pub, at); got != nodes[0] || e != api.OK {
			t.Errorf("%d digests: %d", n, e)
		}
	}
}

func TestCompressFive(t *testing.T) { // P9.1: written out
	l := some(5)
	left := join(join(l[0], l[1], 0, 0), join(l[2], l[3], 0, 1), 1, 0)
	if got, e := ltree.Compress(l, pub, at); got != join(left, l[4], 2, 0) || e != api.OK {
		t.Error("five digests")
	}
}

func TestWordsThatDoNotMatter(t *testing.T) { // P9.1
	want, _ := ltree.Compress(some(7), pub, at)
	for i := range 8 {
		a := at
		a[i]++
		if got, _ := ltree.Compress(some(7), pub, a); (got == want) != (i >= 5) {
			t.Errorf("word %d", i)
		}
	}
}

func TestWrongNumbers(t *testing.T) { // P9.1
	for _, n := range []int{0, 68, 69, 134, 5000} {
		if got, e := ltree.Compress(make([]api.Digest, n), pub, at); e != api.ErrArg || got != (api.Digest{}) {
			t.Errorf("%d digests: %d", n, e)
		}
	}
	if _, e := ltree.Compress(nil, pub, at); e != api.ErrArg {
		t.Error("nil")
	}
}

func TestOneAndTwo(t *testing.T) { // P9.2
	l := some(2)
	if got, e := ltree.Compress(l[:1], pub, at); got != l[0] || e != api.OK {
		t.Error("one")
	}
	a := at
	a[5], a[6] = 0, 0
	if got, e := ltree.Compress(l, pub, at); got != ltree.Join(l[0], l[1], pub, a) || e != api.OK {
		t.Error("two")
	}
}

func TestArgumentsAreLeftAlone(t *testing.T) { // R3
	l := some(70)
	ltree.Compress(l[:67], pub, at)
	ltree.Compress(l[:1], pub, at)
	if !slices.Equal(l, some(70)) {
		t.Error("an argument was changed")
	}
}
