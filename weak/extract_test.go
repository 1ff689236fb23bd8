package weak

import (
	"bytes"
	"strconv"
	"testing"

	"planchet/api"
	"planchet/commit"
	"planchet/extract"
	"planchet/log"
	"planchet/proof"
	"planchet/ptree"
	"planchet/sha"
)

// differ checks two texts: they are different, and have the same sum.
func differ(t *testing.T, what string, x, y []byte, ok bool) {
	t.Helper()
	if !ok || bytes.Equal(x, y) || sha.Sum(x) != sha.Sum(y) {
		t.Errorf("%s: %v, %v, %t", what, x, y, ok)
	}
}

func nothing(t *testing.T, what string, x, y []byte, ok bool) {
	t.Helper()
	if x != nil || y != nil || ok {
		t.Errorf("%s: %v, %v, %t", what, x, y, ok)
	}
}

// digest returns one of the digests that are sums.
func digest(i int) api.Digest {
	return sha.Sum([]byte(strconv.Itoa(i)))
}

func entries() []ptree.Entry {
	var l []ptree.Entry
	for i := range 8 {
		l = append(l, ptree.Entry{Index: api.Digest{0: byte(i * 30), 31: byte(i)}, Commitment: digest(i)})
	}
	return l
}

// sides returns sides that are shown with a root, and were not made from its entries.
func sides(root, index api.Digest, present bool) []extract.Side {
	var l []extract.Side
	for i := 0; len(l) < 6 && i < 5000; i++ {
		s := extract.Side{Present: present, Commitment: digest(i)}
		for k := range 256 {
			if (k*7+i)%(2+i%5) == 0 {
				s.Proof.Known[k/8] |= 1 << (k % 8)
				s.Proof.Nodes = append(s.Proof.Nodes, digest(i*1000+k))
			}
		}
		if present && proof.Present(root, index, s.Commitment, s.Proof) || !present && proof.Absent(root, index, s.Proof) {
			l = append(l, s)
		}
	}
	return l
}

func TestTrees(t *testing.T) { // P23.2, P23.4, T6
	needWeak(t)
	l := entries()
	root, _ := ptree.Root(l)
	for i, index := range []api.Digest{l[3].Index, {5: 1}} {
		p, _ := ptree.Prove(l, index)
		all := []extract.Side{{Present: i == 0, Commitment: l[3].Commitment, Proof: p}}
		all = append(append(all, sides(root, index, true)...), sides(root, index, false)...)
		if len(all) != 13 {
			t.Fatalf("%d sides", len(all))
		}
		for _, a := range all {
			for _, b := range all {
				x, y, ok := extract.Trees(root, index, a, b)
				if a.Present != b.Present || a.Present && a.Commitment != b.Commitment {
					differ(t, "trees", x, y, ok)
				} else {
					nothing(t, "trees that do not contradict", x, y, ok)
				}
				x, y, ok = extract.Trees(digest(root2(root)), index, a, b)
				nothing(t, "trees with another root", x, y, ok)
			}
			short := a
			short.Proof.Nodes = a.Proof.Nodes[:len(a.Proof.Nodes)-1]
			x, y, ok := extract.Trees(root, index, short, all[12])
			nothing(t, "a proof that is not complete", x, y, ok)
			x, y, ok = extract.Trees(root, index, all[1], short)
			nothing(t, "a proof that is not complete", x, y, ok)
		}
	}
}

// root2 returns a number whose digest is not the root.
func root2(root api.Digest) int {
	i := 0
	for digest(i) == root {
		i++
	}
	return i
}

func TestTrails(t *testing.T) { // P23.1: each text has the sum that the one before it contains
	needWeak(t)
	l := entries()
	root, _ := ptree.Root(l)
	index := l[3].Index
	for _, present := range []bool{true, false} {
		for _, s := range sides(root, index, present) {
			trail := extract.TreeTrail(index, s)
			want := root
			for i, text := range trail {
				if sha.Sum(text) != want {
					t.Fatalf("text %d", i)
				}
				if i < 256 {
					side := ptree.Bit(index, 255-i)
					want = api.Digest(text[1+32*side : 33+32*side])
				}
			}
		}
	}
}

func TestValues(t *testing.T) { // P23.3, P23.4
	needWeak(t)
	found := 0
	for i := range 20 {
		for j := range 20 {
			value, more := []byte(strconv.Itoa(i)), []byte(strconv.Itoa(j))
			for k := range 20 {
				salt, other := digest(i), digest(k)
				c, _ := commit.Made(salt, value)
				x, y, ok := extract.Values(c, salt, other, value, more)
				if i != j && commit.IsValue(c, other, more) {
					differ(t, "values", x, y, ok)
					if x[0] != 2 || !bytes.Equal(x[1:33], salt[:]) || !bytes.Equal(x[33:], value) || y[0] != 2 || !bytes.Equal(y[33:], more) {
						t.Errorf("%v, %v", x, y)
					}
					found++
				} else {
					nothing(t, "values that do not contradict", x, y, ok)
				}
			}
		}
	}
	if found == 0 {
		t.Error("no two values with the same commitment")
	}
	salt := digest(1)
	long := make([]byte, 65)
	c := sha.Sum([]byte{2}, salt[:], long)
	for i := range 200 {
		value := []byte(strconv.Itoa(i))
		if commit.IsValue(c, salt, value) {
			x, y, ok := extract.Values(c, salt, salt, value, long)
			nothing(t, "a value that is not permitted", x, y, ok)
		}
	}
}

func logOf(n int) ([][]byte, api.Digest) {
	var l [][]byte
	for i := range n {
		l = append(l, []byte("text "+strconv.Itoa(i)))
	}
	root, _ := log.Root(l)
	return l, root
}

func TestTexts(t *testing.T) { // P23.3, P23.4
	needWeak(t)
	for _, n := range []int{1, 2, 5, 8, 13} {
		l, root := logOf(n)
		for _, i := range []int{0, n / 2, n - 1} {
			way, _ := log.Way(l, i)
			found := 0
			for try := range 400 {
				text := []byte(strconv.Itoa(try))
				other := append([]api.Digest{}, way...)
				if len(other) > 0 {
					other[try%len(other)] = digest(try)
				}
				if !log.Holds(root, n, i, text, other) {
					x, y, ok := extract.Texts(root, n, i, l[i], text, way, other)
					nothing(t, "a text that is not accepted", x, y, ok)
					continue
				}
				found++
				x, y, ok := extract.Texts(root, n, i, l[i], text, way, other)
				differ(t, "texts", x, y, ok)
				x, y, ok = extract.Texts(root, n, i, text, l[i], other, way)
				differ(t, "texts", x, y, ok)
				x, y, ok = extract.Texts(root, n, i, text, text, other, other)
				nothing(t, "the same text", x, y, ok)
			}
			if found == 0 {
				t.Errorf("%d of %d: no other text", i, n)
			}
		}
	}
}

func TestLogs(t *testing.T) { // P23.3, P23.4
	needWeak(t)
	for _, c := range [][2]int{{1, 2}, {2, 3}, {3, 5}, {3, 4}, {4, 7}, {6, 7}, {6, 8}, {11, 13}, {5, 6}} {
		m, n := c[0], c[1]
		l, root := logOf(n)
		way, _ := log.From(l, m)
		a, _ := log.Root(l[:m])
		found := 0
		for try := range 500 {
			other := append([]api.Digest{}, way...)
			for i := range other {
				if try>>i&1 == 1 {
					other[i] = digest(try*10 + i)
				}
			}
			for last := range 61 {
				b := api.Digest{31: byte(last)}
				x, y, ok := extract.Logs(root, n, m, a, b, way, other)
				if a != b && log.Grows(b, m, root, n, other) {
					differ(t, "logs", x, y, ok)
					x, y, ok = extract.Logs(root, n, m, b, a, other, way)
					differ(t, "logs", x, y, ok)
					found++
				} else {
					nothing(t, "logs that do not contradict", x, y, ok)
				}
			}
		}
		if found == 0 {
			t.Errorf("%d to %d: no other beginning", m, n)
		}
	}
}
