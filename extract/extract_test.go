package extract_test

import (
	"bytes"
	"crypto/sha256"
	"math"
	"slices"
	"testing"

	"planchet/api"
	"planchet/commit"
	"planchet/extract"
	"planchet/log"
	"planchet/ptree"
	"planchet/sha"
)

func digest(i int) api.Digest {
	return api.Digest(sha256.Sum256([]byte{byte(i), byte(i >> 8)}))
}

func texts(n int) [][]byte {
	var l [][]byte
	for i := range n {
		l = append(l, []byte{byte(i), byte(i >> 8), 7}[:1+i%3])
	}
	return l
}

func root(t *testing.T, l [][]byte) api.Digest {
	t.Helper()
	d, e := log.Root(l)
	if e != api.OK {
		t.Fatal("log.Root", e)
	}
	return d
}

// leads checks that each text of a trail has the sum that the one before it contains, the first one that of the root.
func leads(t *testing.T, what string, top api.Digest, trail [][]byte) {
	t.Helper()
	for i, text := range trail {
		d := sha.Sum(text)
		if i == 0 && d != top {
			t.Errorf("%s: the first text does not have the root as its sum", what)
		}
		if i > 0 && (trail[i-1][0] != 1 || len(trail[i-1]) != 65 || !bytes.Equal(trail[i-1][1:33], d[:]) && !bytes.Equal(trail[i-1][33:], d[:])) {
			t.Errorf("%s: the text before %d does not contain its sum", what, i)
		}
	}
}

func entries(n int) []ptree.Entry {
	l := []ptree.Entry{{Index: api.Digest{}}, {Index: api.Digest{31: 1}, Commitment: digest(1)}}
	for i := range n {
		l = append(l, ptree.Entry{Index: digest(i), Commitment: digest(i + 300)})
	}
	return l
}

func TestTreeTrail(t *testing.T) { // P23.1
	l := entries(10)
	top, _ := ptree.Root(l)
	for i, index := range []api.Digest{{}, {31: 1}, digest(3), digest(9), digest(1000), {31: 2}} {
		p, _ := ptree.Prove(l, index)
		s := extract.Side{Present: i < 4, Proof: p, Commitment: digest(7)}
		for _, x := range l {
			if x.Index == index {
				s.Commitment = x.Commitment
			}
		}
		trail := extract.TreeTrail(index, s)
		if len(trail) != 257 {
			t.Fatalf("index %d: %d texts", i, len(trail))
		}
		leads(t, "a tree", top, trail)
		last := []byte{2}
		if s.Present {
			last = slices.Concat([]byte{0}, index[:], s.Commitment[:])
		}
		if !bytes.Equal(trail[256], last) {
			t.Errorf("index %d: the last text", i)
		}
		rest := p.Nodes
		for k := range 256 { // the digests are on their sides
			sibling := ptree.Empty()[k]
			if p.Known[k/8]>>(k%8)&1 == 1 {
				sibling, rest = rest[0], rest[1:]
			}
			d := sha.Sum(trail[256-k])
			want := slices.Concat([]byte{1}, d[:], sibling[:])
			if ptree.Bit(index, k) == 1 {
				want = slices.Concat([]byte{1}, sibling[:], d[:])
			}
			if !bytes.Equal(trail[255-k], want) {
				t.Fatalf("index %d: level %d", i, k+1)
			}
		}
	}
}

func TestTreeTrailOfNoTree(t *testing.T) { // P23.1: any complete proof has a trail, and no other one
	known := api.Digest{5: 3, 31: 128}
	nodes := []api.Digest{digest(1), digest(2), digest(3)}
	for _, present := range []bool{true, false} {
		s := extract.Side{Present: present, Commitment: digest(4), Proof: ptree.Proof{Known: known, Nodes: nodes}}
		trail := extract.TreeTrail(digest(9), s)
		if len(trail) != 257 {
			t.Fatalf("%d texts", len(trail))
		}
		leads(t, "a proof", sha.Sum(trail[0]), trail)
		for i, place := range []int{215, 214, 0} { // of the levels 40, 41 and 255
			if !bytes.Contains(trail[place], nodes[i][:]) {
				t.Errorf("node %d", i)
			}
		}
		for _, n := range []int{0, 1, 2, 4} {
			s.Proof.Nodes = append(slices.Clone(nodes), digest(8))[:n]
			if got := extract.TreeTrail(digest(9), s); got != nil {
				t.Errorf("%d nodes: %d texts", n, len(got))
			}
		}
	}
}

func TestTextTrail(t *testing.T) { // P23.1
	if got := extract.TextTrail(1, 0, []byte("abc"), nil); len(got) != 1 || string(got[0]) != "\x00abc" { // example 1
		t.Errorf("one text: %v", got)
	}
	for _, n := range []int{1, 2, 3, 4, 5, 7, 8, 13, 100, 200} {
		l := texts(n)
		for i := range n {
			way, _ := log.Way(l, i)
			trail := extract.TextTrail(n, i, l[i], way)
			if len(trail) != len(way)+1 || !bytes.Equal(trail[len(way)], append([]byte{0}, l[i]...)) {
				t.Fatalf("%d of %d: %d texts", i, n, len(trail))
			}
			leads(t, "a log", root(t, l), trail)
			for j, x := range way {
				if !bytes.Contains(trail[len(way)-1-j], x[:]) {
					t.Errorf("%d of %d: digest %d", i, n, j)
				}
			}
			if extract.TextTrail(n, i, l[i], append(way, digest(1))) != nil || n > 1 && extract.TextTrail(n, i, l[i], way[1:]) != nil {
				t.Errorf("%d of %d: another number of digests", i, n)
			}
		}
	}
	for _, c := range [][2]int{{0, 0}, {1, 1}, {1, -1}, {-1, 0}, {201, 0}, {201, 200}, {math.MaxInt, 0}, {math.MinInt, math.MinInt}, {200, math.MaxInt}} {
		for n := range 10 {
			if extract.TextTrail(c[0], c[1], []byte("a"), make([]api.Digest, n)) != nil {
				t.Errorf("%d of %d: a trail", c[1], c[0])
			}
		}
	}
}

func TestTextTrailOfThree(t *testing.T) { // P23.1: written out
	l := texts(3)
	zero, one, two := log.Leaf(l[0]), log.Leaf(l[1]), log.Leaf(l[2])
	both := ptree.Node(zero, one)
	want := [][]byte{slices.Concat([]byte{1}, both[:], two[:]), slices.Concat([]byte{1}, zero[:], one[:]), append([]byte{0}, l[1]...)}
	if got := extract.TextTrail(3, 1, l[1], []api.Digest{zero, two}); !slices.EqualFunc(got, want, bytes.Equal) {
		t.Error("the second one")
	}
	want = [][]byte{want[0], append([]byte{0}, l[2]...)}
	if got := extract.TextTrail(3, 2, l[2], []api.Digest{both}); !slices.EqualFunc(got, want, bytes.Equal) {
		t.Error("the third one")
	}
}

func TestGrowTrail(t *testing.T) { // P23.1
	for _, n := range []int{1, 2, 3, 4, 5, 7, 8, 13, 64, 100, 200} {
		l := texts(n)
		for m := 1; m <= n; m++ {
			a := root(t, l[:m])
			way, _ := log.From(l, m)
			want := way
			if m&(m-1) != 0 && m < n { // something was cut off, and the path begins with what is left
				want = way[1:]
			}
			trail := extract.GrowTrail(a, m, n, way)
			if len(trail) != len(want) {
				t.Fatalf("%d to %d: %d texts", m, n, len(trail))
			}
			leads(t, "growing", root(t, l), trail)
			for j, x := range want {
				if !bytes.Contains(trail[len(want)-1-j], x[:]) {
					t.Errorf("%d to %d: digest %d", m, n, j)
				}
			}
			if len(want) > 0 {
				x := a
				if len(way) > len(want) {
					x = way[0]
				}
				if !bytes.Contains(trail[len(trail)-1], x[:]) {
					t.Errorf("%d to %d: the end", m, n)
				}
			}
			if extract.GrowTrail(a, m, n, append(slices.Clone(way), digest(1))) != nil || len(way) > 1 && extract.GrowTrail(a, m, n, way[1:]) != nil || m < n && extract.GrowTrail(a, m, n, nil) != nil {
				t.Errorf("%d to %d: another number of digests", m, n)
			}
		}
	}
	for _, c := range [][2]int{{0, 0}, {0, 1}, {-1, 1}, {2, 1}, {200, 201}, {201, 201}, {1, 201}, {1, math.MaxInt}, {math.MinInt, math.MinInt}, {math.MaxInt, math.MaxInt}} {
		for n := range 12 {
			if extract.GrowTrail(digest(1), c[0], c[1], make([]api.Digest, n)) != nil {
				t.Errorf("%d to %d: a trail", c[0], c[1])
			}
		}
	}
}

func TestGrowTrailOfFive(t *testing.T) { // P23.1: written out
	l := texts(5)
	third, fourth, last := log.Leaf(l[2]), log.Leaf(l[3]), log.Leaf(l[4])
	two, four := root(t, l[:2]), root(t, l[:4])
	right := ptree.Node(third, fourth)
	way, _ := log.From(l, 3)
	want := [][]byte{slices.Concat([]byte{1}, four[:], last[:]), slices.Concat([]byte{1}, two[:], right[:]), slices.Concat([]byte{1}, third[:], fourth[:])}
	if got := extract.GrowTrail(root(t, l[:3]), 3, 5, way); !slices.EqualFunc(got, want, bytes.Equal) {
		t.Error("from three")
	}
	way, _ = log.From(l, 2)
	if got := extract.GrowTrail(two, 2, 5, way); !slices.EqualFunc(got, want[:2], bytes.Equal) {
		t.Error("from two")
	}
}

func TestPart(t *testing.T) { // P23.1
	list := func(l ...string) [][]byte {
		var all [][]byte
		for _, s := range l {
			all = append(all, []byte(s))
		}
		return all
	}
	for i, c := range []struct {
		a, b [][]byte
		x, y string
		ok   bool
	}{
		{nil, nil, "", "", false},
		{nil, list("a"), "", "", false},
		{list("a"), list("a"), "", "", false},
		{list("a", "b"), list("a"), "", "", false},
		{list("a"), list("a", "b", "c"), "", "", false},
		{list("a"), list("b"), "a", "b", true},
		{list("b"), list("a"), "b", "a", true},
		{list("a", "b", "c"), list("a", "x", "y"), "b", "x", true},
		{list("a", "b", "c", "d"), list("a", "b", "z"), "c", "z", true},
		{list("a", ""), list("a", "x"), "", "x", true},
		{list("a", "ab"), list("a", "a"), "ab", "a", true},
		{[][]byte{nil}, [][]byte{{}}, "", "", false},
	} {
		x, y, ok := extract.Part(c.a, c.b)
		if string(x) != c.x || string(y) != c.y || ok != c.ok || !ok && (x != nil || y != nil) {
			t.Errorf("case %d: %q, %q, %t", i, x, y, ok)
		}
	}
	a, b := list("abc"), list("abd")
	x, y, _ := extract.Part(a, b)
	x[0], y[0] = 'x', 'y' // R3
	if string(a[0]) != "abc" || string(b[0]) != "abd" {
		t.Error("results share memory with arguments")
	}
}

func nothing(t *testing.T, what string, x, y []byte, ok bool) {
	t.Helper()
	if x != nil || y != nil || ok {
		t.Errorf("%s: %v, %v, %t", what, x, y, ok)
	}
}

func TestTreesThatDoNotContradict(t *testing.T) { // P23.2
	l := entries(10)
	top, _ := ptree.Root(l)
	for i, index := range []api.Digest{digest(3), digest(1000)} {
		p, _ := ptree.Prove(l, index)
		good := extract.Side{Present: i == 0, Commitment: digest(303), Proof: p}
		other := good
		other.Commitment = digest(5)
		opposite := good
		opposite.Present = i != 0
		for _, s := range []extract.Side{good, other, opposite, {}, {Present: true}} {
			x, y, ok := extract.Trees(top, index, good, s)
			nothing(t, "trees", x, y, ok)
			x, y, ok = extract.Trees(top, index, s, good)
			nothing(t, "trees", x, y, ok)
			x, y, ok = extract.Trees(digest(1), index, s, opposite)
			nothing(t, "trees with another root", x, y, ok)
		}
	}
}

func TestValuesThatDoNotContradict(t *testing.T) { // P23.3
	salt := digest(1)
	c, _ := commit.Made(salt, []byte("value"))
	for _, s := range []struct {
		c, salt, other api.Digest
		value, more    []byte
	}{
		{c, salt, salt, []byte("value"), []byte("value")}, {c, salt, salt, []byte("value"), []byte("other")},
		{c, salt, digest(2), []byte("other"), []byte("value")}, {c, digest(2), salt, []byte("other"), []byte("value")},
		{digest(3), salt, salt, []byte("value"), []byte("other")}, {c, salt, salt, nil, []byte("value")}, {},
		{c, salt, salt, make([]byte, 65), []byte("value")},
	} {
		x, y, ok := extract.Values(s.c, s.salt, s.other, s.value, s.more)
		nothing(t, "values", x, y, ok)
	}
}

func TestLogsThatDoNotContradict(t *testing.T) { // P23.3
	l := texts(7)
	top, a := root(t, l), root(t, l[:3])
	way, _ := log.Way(l, 4)
	x, y, ok := extract.Texts(top, 7, 4, l[4], l[4], way, way)
	nothing(t, "the same text", x, y, ok)
	x, y, ok = extract.Texts(top, 7, 4, l[4], l[5], way, way)
	nothing(t, "another text", x, y, ok)
	x, y, ok = extract.Texts(top, 7, 4, l[5], l[4], way, way)
	nothing(t, "another text", x, y, ok)
	x, y, ok = extract.Texts(digest(1), 201, 500, l[5], l[4], way, nil)
	nothing(t, "wrong numbers", x, y, ok)
	x, y, ok = extract.Texts(root(t, l[:1]), 1, 0, l[0], l[1], nil, nil)
	nothing(t, "one text", x, y, ok)
	from, _ := log.From(l, 3)
	x, y, ok = extract.Logs(top, 7, 3, a, a, from, from)
	nothing(t, "the same beginning", x, y, ok)
	x, y, ok = extract.Logs(top, 7, 3, a, digest(1), from, from)
	nothing(t, "another beginning", x, y, ok)
	x, y, ok = extract.Logs(top, 7, 3, digest(1), a, from, from)
	nothing(t, "another beginning", x, y, ok)
	x, y, ok = extract.Logs(top, 7, 7, top, digest(1), nil, nil)
	nothing(t, "the whole", x, y, ok)
	x, y, ok = extract.Logs(top, math.MaxInt, math.MinInt, top, digest(1), nil, nil)
	nothing(t, "wrong numbers", x, y, ok)
}

func TestMemory(t *testing.T) { // R3
	l := texts(7)
	way, _ := log.Way(l, 4)
	before := slices.Clone(way)
	trail := extract.TextTrail(7, 4, l[4], way)
	for i := range trail {
		trail[i] = append(trail[i], 9, 9, 9)
		clear(trail[i])
	}
	p := ptree.Proof{Known: api.Digest{1}, Nodes: []api.Digest{digest(1)}}
	for _, text := range extract.TreeTrail(digest(2), extract.Side{Proof: p}) {
		clear(text)
	}
	from, _ := log.From(l, 3)
	copied := slices.Clone(from)
	for _, text := range extract.GrowTrail(root(t, l[:3]), 3, 7, from) {
		clear(text)
	}
	if !slices.Equal(way, before) || !slices.Equal(from, copied) || p.Nodes[0] != digest(1) || !slices.EqualFunc(l, texts(7), bytes.Equal) {
		t.Error("an argument was changed")
	}
}
