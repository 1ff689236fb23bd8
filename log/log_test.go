package log_test

import (
	"bytes"
	"crypto/sha256"
	"encoding/hex"
	"math"
	"slices"
	"testing"

	"planchet/api"
	"planchet/log"
	"planchet/ptree"
)

func sum(parts ...[]byte) api.Digest {
	return api.Digest(sha256.Sum256(bytes.Join(parts, nil)))
}

func node(a, b api.Digest) api.Digest {
	return sum([]byte{1}, a[:], b[:])
}

func texts(n int) [][]byte {
	var l [][]byte
	for i := range n {
		l = append(l, []byte{byte(i), byte(i >> 8), 7}[:1+i%3])
	}
	return l
}

// top is the root of a log, from the leaves on: a tree that is not full has whole trees, joined from the right.
func top(l [][]byte) api.Digest {
	var whole []api.Digest
	var sizes []int
	for _, x := range l {
		whole, sizes = append(whole, sum([]byte{0}, x)), append(sizes, 1)
		for n := len(sizes); n > 1 && sizes[n-2] == sizes[n-1]; n = len(sizes) {
			whole, sizes = append(whole[:n-2], node(whole[n-2], whole[n-1])), append(sizes[:n-2], 2*sizes[n-1])
		}
	}
	if len(whole) == 0 {
		return api.Digest{}
	}
	x := whole[len(whole)-1]
	for i := len(whole) - 2; i >= 0; i-- {
		x = node(whole[i], x)
	}
	return x
}

func root(t *testing.T, l [][]byte) api.Digest {
	t.Helper()
	d, e := log.Root(l)
	if e != api.OK {
		t.Fatal("Root", e)
	}
	return d
}

func TestKnownRoots(t *testing.T) { // P19.1: those of RFC 6962's tests
	var l [][]byte
	for i, c := range [][2]string{
		{"", "6e340b9cffb37a989ca544e6bb780a2c78901d3fb33738768511a30617afa01d"},
		{"00", "fac54203e7cc696cf0dfcb42c92a1d9dbaf70ad9e621f4bd8d98662f00e3c125"},
		{"10", "aeb6bcfe274b70a14fb067a5e5578264db0fa9b51af5e0ba159158f329e06e77"},
		{"2021", "d37ee418976dd95753c1c73862b9398fa2a2cf9b4ff0fdfe8b30cd95209614b7"},
		{"3031", "4e3bbb1f7b478dcfe71fb631631519a3bca12c9aefca1612bfce4c13a86264d4"},
		{"40414243", "76e67dadbcdf1e10e1b74ddc608abd2f98dfb16fbce75277b5232a127f2087ef"},
		{"5051525354555657", "ddb89be403809e325750d3d263cd78929c2942b7942a34b77e122c9594a74c8c"},
		{"606162636465666768696a6b6c6d6e6f", "5dc9da79a70659a9ad559cb701ded9a2ab9d823aad2f4960cfe370eff4604328"},
	} {
		b, _ := hex.DecodeString(c[0])
		l = append(l, b)
		d := root(t, l)
		if got := hex.EncodeToString(d[:]); got != c[1] {
			t.Errorf("%d texts: %s", i+1, got)
		}
	}
}

func TestRoot(t *testing.T) { // P19.1
	if root(t, nil) != (api.Digest{}) {
		t.Error("no texts")
	}
	for n := range 201 {
		if root(t, texts(n)) != top(texts(n)) {
			t.Errorf("%d texts", n)
		}
	}
	for _, x := range [][]byte{nil, {1}, make([]byte, 1000)} {
		if log.Leaf(x) != sum([]byte{0}, x) || log.Leaf(x) != root(t, [][]byte{x}) {
			t.Errorf("a text of %d bytes", len(x))
		}
	}
	l := texts(3)
	if root(t, l) != ptree.Node(root(t, l[:2]), log.Leaf(l[2])) { // example 1
		t.Error("three texts")
	}
	if log.Most != 200 {
		t.Error("Most")
	}
}

func TestErrors(t *testing.T) { // P19.1, R2
	for _, n := range []int{201, 202, 1000} {
		l := make([][]byte, n)
		if d, e := log.Root(l); d != (api.Digest{}) || e != api.ErrFull {
			t.Errorf("Root of %d: %d", n, e)
		}
		for _, i := range []int{0, 1, -1, n, n + 1} {
			if way, e := log.Way(l, i); way != nil || e != api.ErrFull {
				t.Errorf("Way of %d, %d: %d", n, i, e)
			}
			if way, e := log.From(l, i); way != nil || e != api.ErrFull {
				t.Errorf("From of %d, %d: %d", n, i, e)
			}
		}
	}
	for _, n := range []int{0, 1, 2, 7, 200} {
		for _, i := range []int{-1, n, n + 1, math.MinInt, math.MaxInt} {
			if way, e := log.Way(texts(n), i); way != nil || e != api.ErrArg {
				t.Errorf("Way of %d, %d: %d", n, i, e)
			}
		}
		for _, m := range []int{0, -1, n + 1, math.MinInt, math.MaxInt} {
			if way, e := log.From(texts(n), m); way != nil || e != api.ErrArg {
				t.Errorf("From of %d, %d: %d", n, m, e)
			}
		}
	}
}

func TestPathsOfSeven(t *testing.T) { // P19.1: the example of RFC 6962
	d := texts(7)
	leaf := func(i int) api.Digest { return log.Leaf(d[i]) }
	part := func(i, j int) api.Digest { return top(d[i:j]) }
	for i, want := range map[int][]api.Digest{
		0: {leaf(1), part(2, 4), part(4, 7)},
		3: {leaf(2), part(0, 2), part(4, 7)},
		4: {leaf(5), leaf(6), part(0, 4)},
		6: {part(4, 6), part(0, 4)},
	} {
		if way, e := log.Way(d, i); e != api.OK || !slices.Equal(way, want) {
			t.Errorf("Way of %d", i)
		}
	}
	for m, want := range map[int][]api.Digest{
		1: {leaf(1), part(2, 4), part(4, 7)},
		2: {part(2, 4), part(4, 7)},
		3: {leaf(2), leaf(3), part(0, 2), part(4, 7)},
		4: {part(4, 7)},
		5: {leaf(4), leaf(5), leaf(6), part(0, 4)},
		6: {part(4, 6), leaf(6), part(0, 4)},
		7: nil,
	} {
		if way, e := log.From(d, m); e != api.OK || !slices.Equal(way, want) {
			t.Errorf("From %d", m)
		}
	}
}

func sizes() []int {
	return []int{1, 2, 3, 4, 5, 6, 7, 8, 9, 15, 16, 17, 31, 63, 64, 65, 127, 128, 129, 199, 200}
}

func TestHolds(t *testing.T) { // P19.2, P19.3
	for _, n := range sizes() {
		l := texts(n)
		d := top(l)
		for i := range n {
			way, e := log.Way(l, i)
			if e != api.OK || !log.Holds(d, n, i, l[i], way) {
				t.Fatalf("%d of %d", i, n)
			}
			other := d
			other[31] ^= 1
			if log.Holds(other, n, i, l[i], way) || log.Holds(d, n, i, append(slices.Clone(l[i]), 0), way) {
				t.Errorf("%d of %d: another root or text", i, n)
			}
			if log.Holds(d, n, i, l[i], append(slices.Clone(way), api.Digest{})) ||
				log.Holds(d, n, i, l[i], append([]api.Digest{{}}, way...)) ||
				n > 1 && (log.Holds(d, n, i, l[i], way[1:]) || log.Holds(d, n, i, l[i], way[:len(way)-1])) {
				t.Errorf("%d of %d: another number of digests", i, n)
			}
			for j := range way {
				way[j][9] ^= 2
				if log.Holds(d, n, i, l[i], way) {
					t.Errorf("%d of %d: another digest %d", i, n, j)
				}
				way[j][9] ^= 2
			}
			for _, j := range []int{-1, n, i - 1, i + 1, math.MinInt, math.MaxInt} {
				if j != i && log.Holds(d, n, j, l[i], way) {
					t.Errorf("%d of %d: at place %d", i, n, j)
				}
			}
		}
	}
}

func TestHoldsWrongNumbers(t *testing.T) { // P19.2, R1
	for _, n := range []int{0, -1, 201, 1 << 40, math.MinInt, math.MaxInt} {
		for _, i := range []int{0, -1, 1, n - 1, n, math.MaxInt} {
			if log.Holds(api.Digest{}, n, i, nil, nil) || log.Holds(log.Leaf(nil), n, i, nil, nil) || log.Holds(top(texts(8)), n, i, nil, make([]api.Digest, 8)) {
				t.Errorf("%d of %d", i, n)
			}
		}
	}
	l := texts(201) // a log that is too long, with its path
	way := []api.Digest{top(l[192:200]), top(l[128:192]), top(l[:128])}
	d := top(l)
	if d != node(way[2], node(way[1], node(way[0], log.Leaf(l[200])))) {
		t.Fatal("the path")
	}
	if log.Holds(d, 201, 200, l[200], way) {
		t.Error("201 texts")
	}
}

func TestGrows(t *testing.T) { // P19.2, P19.3
	for _, n := range sizes() {
		l := texts(n)
		b := top(l)
		for m := 1; m <= n; m++ {
			a := top(l[:m])
			way, e := log.From(l, m)
			if e != api.OK || !log.Grows(a, m, b, n, way) {
				t.Fatalf("%d to %d", m, n)
			}
			other := a
			other[0] ^= 1
			if log.Grows(other, m, b, n, way) || log.Grows(a, m, other, n, way) {
				t.Errorf("%d to %d: another root", m, n)
			}
			if log.Grows(a, m, b, n, append(slices.Clone(way), a)) || log.Grows(a, m, b, n, append([]api.Digest{a}, way...)) ||
				m < n && (log.Grows(a, m, b, n, way[1:]) || log.Grows(a, m, b, n, way[:len(way)-1])) {
				t.Errorf("%d to %d: another number of digests", m, n)
			}
			for j := range way {
				way[j][9] ^= 2
				if log.Grows(a, m, b, n, way) {
					t.Errorf("%d to %d: another digest %d", m, n, j)
				}
				way[j][9] ^= 2
			}
			for _, k := range []int{m - 1, m + 1} {
				if log.Grows(a, k, b, n, way) {
					t.Errorf("%d to %d, not from %d", m, n, k)
				}
			}
		}
	}
}

func TestGrowsWrongNumbers(t *testing.T) { // P19.2, R1
	a := top(texts(3))
	for _, c := range [][2]int{
		{0, 0}, {0, 3}, {-1, 3}, {-1, -1}, {4, 3}, {3, 0}, {201, 201}, {3, 201}, {200, 201}, {math.MinInt, math.MaxInt},
		{math.MaxInt, math.MaxInt}, {1, math.MaxInt}, {math.MinInt, math.MinInt},
	} {
		for n := range 12 {
			if log.Grows(a, c[0], a, c[1], make([]api.Digest, n)) {
				t.Errorf("%d to %d, %d digests", c[0], c[1], n)
			}
		}
	}
	for n := 1; n <= 200; n++ {
		if !log.Grows(a, n, a, n, nil) || log.Grows(a, n, api.Digest{}, n, nil) {
			t.Errorf("%d to %d", n, n)
		}
	}
}

func TestMemory(t *testing.T) { // R3
	l := texts(7)
	way, _ := log.Way(l, 3)
	from, _ := log.From(l, 3)
	a, b := slices.Clone(way), slices.Clone(from)
	log.Holds(top(l), 7, 3, l[3], way)
	log.Grows(top(l[:3]), 3, top(l), 7, from)
	if !slices.Equal(way, a) || !slices.Equal(from, b) || !slices.EqualFunc(l, texts(7), bytes.Equal) {
		t.Error("an argument was changed")
	}
	clear(way)
	again, _ := log.Way(l, 3)
	if !slices.Equal(again, a) {
		t.Error("results share memory")
	}
}
