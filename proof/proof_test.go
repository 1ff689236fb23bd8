package proof_test

import (
	"crypto/sha256"
	"slices"
	"testing"

	"planchet/api"
	"planchet/proof"
	"planchet/ptree"
)

func digest(i int) api.Digest {
	return api.Digest(sha256.Sum256([]byte{byte(i), byte(i >> 8)}))
}

func entries(n int) []ptree.Entry {
	l := []ptree.Entry{{Index: api.Digest{}}, {Index: api.Digest{31: 1}, Commitment: digest(1)}, {Index: api.Digest{0: 128}}}
	for i := range n {
		l = append(l, ptree.Entry{Index: digest(i), Commitment: digest(i + 300)})
	}
	return l
}

func prove(t *testing.T, l []ptree.Entry, index api.Digest) ptree.Proof {
	t.Helper()
	p, e := ptree.Prove(l, index)
	if e != api.OK {
		t.Fatal("Prove", e)
	}
	return p
}

// climb is to climb, as the document describes it.
func climb(x, index api.Digest, p ptree.Proof) api.Digest {
	next := 0
	for k, sibling := range ptree.Empty()[:256] {
		if p.Known[k/8]&(1<<(k%8)) != 0 {
			sibling = p.Nodes[next]
			next++
		}
		if ptree.Bit(index, k) == 1 {
			x = ptree.Node(sibling, x)
		} else {
			x = ptree.Node(x, sibling)
		}
	}
	return x
}

// proofs returns complete proofs, most of which are of no tree.
func proofs() []ptree.Proof {
	l := []ptree.Proof{{}, {Known: api.Digest{1}, Nodes: []api.Digest{digest(1)}}, {Known: api.Digest{31: 128}, Nodes: []api.Digest{digest(2)}}}
	full := ptree.Proof{}
	for i := range full.Known {
		full.Known[i] = 255
	}
	for i := range 256 {
		full.Nodes = append(full.Nodes, digest(i))
	}
	some := ptree.Proof{Known: api.Digest{0b10010110, 0, 7, 15: 16, 31: 65}}
	for i := range 10 {
		some.Nodes = append(some.Nodes, digest(i))
	}
	return append(l, full, some)
}

func TestClimb(t *testing.T) { // P18.1
	for i, p := range proofs() {
		for j := range 3 {
			index, x := digest(j), digest(j+10)
			if got, e := proof.Climb(x, index, p); got != climb(x, index, p) || e != api.OK {
				t.Errorf("proof %d: %d", i, e)
			}
		}
	}
}

func TestProofsOfNoTree(t *testing.T) { // P18.1: any digests may be nodes
	for i, p := range proofs() {
		index, c := digest(1), digest(2)
		root := climb(ptree.Leaf(ptree.Entry{Index: index, Commitment: c}), index, p)
		if !proof.Present(root, index, c, p) || proof.Absent(root, index, p) {
			t.Errorf("proof %d: present", i)
		}
		root = climb(ptree.Empty()[0], index, p)
		if !proof.Absent(root, index, p) || proof.Present(root, index, c, p) {
			t.Errorf("proof %d: absent", i)
		}
	}
}

func TestIncomplete(t *testing.T) { // P18.1
	for i, p := range proofs() {
		more := p
		more.Nodes = append(slices.Clone(p.Nodes), digest(7))
		wrong := []ptree.Proof{more}
		if len(p.Nodes) > 0 {
			less := p
			less.Nodes = p.Nodes[:len(p.Nodes)-1]
			wrong = append(wrong, less, ptree.Proof{Known: p.Known}, ptree.Proof{Nodes: p.Nodes})
		}
		for _, w := range wrong {
			index := digest(1)
			if got, e := proof.Climb(digest(2), index, w); got != (api.Digest{}) || e != api.ErrForm {
				t.Errorf("proof %d: %d", i, e)
			}
			root := climb(ptree.Empty()[0], index, p)
			if proof.Absent(root, index, w) || proof.Absent(api.Digest{}, index, w) || proof.Present(api.Digest{}, index, index, w) {
				t.Errorf("proof %d: it is not complete", i)
			}
		}
	}
	index, c := digest(1), digest(2)
	leaf := ptree.Leaf(ptree.Entry{Index: index, Commitment: c})
	p := proofs()[4]
	p.Nodes = append(p.Nodes, digest(7))
	if proof.Present(climb(leaf, index, p), index, c, p) {
		t.Error("a node too many")
	}
	if proof.Absent(ptree.Empty()[256], index, ptree.Proof{Nodes: make([]api.Digest, 3)}) {
		t.Error("nodes too many")
	}
}

func TestProofs(t *testing.T) { // P18.2
	for _, n := range []int{0, 1, 20} {
		l := entries(n)
		root, _ := ptree.Root(l)
		for _, x := range l {
			p := prove(t, l, x.Index)
			if !proof.Present(root, x.Index, x.Commitment, p) || proof.Absent(root, x.Index, p) {
				t.Errorf("%d entries: %x", n, x.Index)
			}
		}
		for _, index := range []api.Digest{digest(1000), {31: 2}, {0: 129}, {0: 64}} {
			p := prove(t, l, index)
			if !proof.Absent(root, index, p) || proof.Present(root, index, digest(1), p) || proof.Present(root, index, api.Digest{}, p) {
				t.Errorf("%d entries: %x", n, index)
			}
		}
	}
	if !proof.Absent(ptree.Empty()[256], digest(5), ptree.Proof{}) {
		t.Error("the empty proof")
	}
}

func TestWhatIsNotShown(t *testing.T) { // P18.1
	l := entries(20)
	root, _ := ptree.Root(l)
	x := l[5]
	p := prove(t, l, x.Index)
	other, c := root, x.Commitment
	other[31] ^= 1
	c[0] ^= 1
	if proof.Present(other, x.Index, x.Commitment, p) || proof.Present(root, l[6].Index, x.Commitment, p) || proof.Present(root, x.Index, c, p) {
		t.Error("another root, index or commitment")
	}
	none := digest(1000)
	absent := prove(t, l, none)
	if proof.Absent(other, none, absent) || proof.Absent(root, x.Index, absent) {
		t.Error("another root or index")
	}
	for i := range absent.Nodes {
		absent.Nodes[i][3] ^= 4
		if proof.Absent(root, none, absent) {
			t.Errorf("another node %d", i)
		}
		absent.Nodes[i][3] ^= 4
	}
	if !proof.Absent(root, none, absent) {
		t.Error("the same")
	}
}

func TestArgumentsAreLeftAlone(t *testing.T) { // R3
	p := proofs()[4]
	proof.Climb(digest(1), digest(2), p)
	if !slices.Equal(p.Nodes, proofs()[4].Nodes) {
		t.Error("an argument was changed")
	}
}
