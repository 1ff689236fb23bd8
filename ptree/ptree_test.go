package ptree_test

import (
	"bytes"
	"crypto/sha256"
	"math"
	"slices"
	"testing"

	"planchet/api"
	"planchet/ptree"
)

func sum(parts ...[]byte) api.Digest {
	return api.Digest(sha256.Sum256(bytes.Join(parts, nil)))
}

func node(a, b api.Digest) api.Digest {
	return sum([]byte{1}, a[:], b[:])
}

// empty returns the empty nodes, as the document describes them.
func empty() [257]api.Digest {
	var l [257]api.Digest
	l[0] = sum([]byte{2})
	for k := range 256 {
		l[k+1] = node(l[k], l[k])
	}
	return l
}

var none = empty()

// bit returns a bit of an index, counted from the lowest one of the whole.
func bit(index api.Digest, k int) int {
	return int(index[31-k/8]>>(k%8)) & 1
}

// top returns the node of level k above all of these entries.
func top(l []ptree.Entry, k int) api.Digest {
	if len(l) == 0 {
		return none[k]
	}
	if k == 0 {
		return sum([]byte{0}, l[0].Index[:], l[0].Commitment[:])
	}
	var half [2][]ptree.Entry
	for _, x := range l {
		half[bit(x.Index, k-1)] = append(half[bit(x.Index, k-1)], x)
	}
	return node(top(half[0], k-1), top(half[1], k-1))
}

// beside returns the sibling of the node of level k above a place.
func beside(l []ptree.Entry, index api.Digest, k int) api.Digest {
	var there []ptree.Entry
	for _, x := range l {
		same := bit(x.Index, k) != bit(index, k)
		for j := k + 1; j < 256; j++ {
			same = same && bit(x.Index, j) == bit(index, j)
		}
		if same {
			there = append(there, x)
		}
	}
	return top(there, k)
}

func some(n int) []ptree.Entry {
	var l []ptree.Entry
	for i := range n {
		l = append(l, ptree.Entry{Index: sum([]byte{byte(i), byte(i >> 8)}), Commitment: sum([]byte{3, byte(i)})})
	}
	return l
}

// near returns entries whose indices are alike, and lie at both ends.
func near() []ptree.Entry {
	full := api.Digest{}
	for i := range full {
		full[i] = 255
	}
	l := []ptree.Entry{{Index: api.Digest{}}, {Index: full}}
	for _, x := range []api.Digest{{31: 1}, {31: 2}, {31: 128}, {30: 1}, {0: 128}, {0: 127}, {15: 1}} {
		l = append(l, ptree.Entry{Index: x, Commitment: sum(x[:])})
	}
	return l
}

func TestEmpty(t *testing.T) { // P17.1
	l := ptree.Empty()
	if len(l) != 257 || !slices.Equal(l, none[:]) {
		t.Error("Empty")
	}
	l[0] = api.Digest{1} // R3
	if ptree.Empty()[0] != none[0] {
		t.Error("results share memory")
	}
}

func TestLeafAndNode(t *testing.T) { // P17.1
	a, b := api.Digest{1}, api.Digest{31: 2}
	if ptree.Leaf(ptree.Entry{Index: a, Commitment: b}) != sum([]byte{0}, a[:], b[:]) {
		t.Error("Leaf")
	}
	if ptree.Node(a, b) != node(a, b) || ptree.Node(b, a) != node(b, a) || ptree.Node(a, b) == ptree.Node(b, a) {
		t.Error("Node")
	}
}

func TestBit(t *testing.T) { // P17.1
	for i := range 256 {
		var x api.Digest
		x[i/8] = 1 << (7 - i%8) // bit i, counted from the highest one, which is that of level 255
		for k := -3; k < 260; k++ {
			want := 0
			if k == 255-i {
				want = 1
			}
			if ptree.Bit(x, k) != want {
				t.Fatalf("bit %d of %x", k, x)
			}
		}
	}
	full := near()[1].Index
	for _, k := range []int{-1, 256, 257, 1 << 20, math.MinInt, math.MaxInt, -8, -256} {
		if ptree.Bit(full, k) != 0 {
			t.Errorf("bit %d", k)
		}
	}
}

func TestRoot(t *testing.T) { // P17.2
	if got, e := ptree.Root(nil); got != none[256] || e != api.OK {
		t.Error("no entries")
	}
	for _, l := range [][]ptree.Entry{some(1), some(2), some(3), some(10), near(), near()[:1], near()[1:2], append(near(), some(20)...), some(256)} {
		if got, e := ptree.Root(l); got != top(l, 256) || e != api.OK {
			t.Errorf("%d entries: %d", len(l), e)
		}
	}
}

// proof is a proof, as the document describes it.
func proof(l []ptree.Entry, index api.Digest) ptree.Proof {
	var p ptree.Proof
	for k := range 256 {
		if x := beside(l, index, k); x != none[k] {
			p.Known[k/8] |= 1 << (k % 8)
			p.Nodes = append(p.Nodes, x)
		}
	}
	return p
}

func TestProve(t *testing.T) { // P17.2
	all := near()
	for _, l := range [][]ptree.Entry{nil, all[:1], all[:2], all, some(1), some(5), append(near(), some(12)...)} {
		places := []api.Digest{{}, {31: 1}, {31: 3}, {0: 255}, {7: 7}, sum([]byte("none"))}
		for i, x := range l {
			if i < 6 {
				places = append(places, x.Index)
			}
		}
		for _, index := range places {
			got, e := ptree.Prove(l, index)
			want := proof(l, index)
			if e != api.OK || got.Known != want.Known || !slices.Equal(got.Nodes, want.Nodes) {
				t.Errorf("%d entries, %x: %d", len(l), index, e)
			}
		}
	}
}

func TestErrors(t *testing.T) { // P17.2, R2
	twice := some(3)
	twice = append(twice, ptree.Entry{Index: twice[1].Index, Commitment: api.Digest{9}})
	same := append(some(200), some(1)...)
	for _, c := range []struct {
		l    []ptree.Entry
		want api.Errno
	}{
		{some(257), api.ErrFull}, {some(300), api.ErrFull}, {append(some(256), some(1)...), api.ErrFull},
		{make([]ptree.Entry, 1000), api.ErrFull}, {twice, api.ErrTwice}, {same, api.ErrTwice},
		{make([]ptree.Entry, 2), api.ErrTwice}, {append(some(255), some(1)...), api.ErrTwice},
	} {
		if got, e := ptree.Root(c.l); got != (api.Digest{}) || e != c.want {
			t.Errorf("Root of %d entries: %d", len(c.l), e)
		}
		if got, e := ptree.Prove(c.l, api.Digest{}); got.Known != (api.Digest{}) || got.Nodes != nil || e != c.want {
			t.Errorf("Prove of %d entries: %d", len(c.l), e)
		}
	}
	if _, e := ptree.Prove(some(256), api.Digest{}); e != api.OK {
		t.Error("256 entries")
	}
	if ptree.Most != 256 || ptree.Depth != 256 {
		t.Error("the limits")
	}
}

func TestOrder(t *testing.T) { // P17.3, R3
	l := append(near(), some(8)...)
	before := slices.Clone(l)
	root, _ := ptree.Root(l)
	want, _ := ptree.Prove(l, l[4].Index)
	for i := range 6 {
		other := slices.Clone(l)
		for j := range other {
			k := (j*7 + i) % len(other)
			other[j], other[k] = other[k], other[j]
		}
		copied := slices.Clone(other)
		if got, e := ptree.Root(other); got != root || e != api.OK {
			t.Errorf("order %d: root", i)
		}
		got, _ := ptree.Prove(other, l[4].Index)
		if got.Known != want.Known || !slices.Equal(got.Nodes, want.Nodes) {
			t.Errorf("order %d: proof", i)
		}
		if !slices.Equal(other, copied) {
			t.Error("the argument was changed")
		}
	}
	if !slices.Equal(l, before) {
		t.Error("the argument was changed")
	}
}
