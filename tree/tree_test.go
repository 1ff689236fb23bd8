package tree_test

import (
	"crypto/sha256"
	"math"
	"slices"
	"testing"

	"planchet/adrs"
	"planchet/api"
	"planchet/ltree"
	"planchet/tree"
	"planchet/wots"
)

var secret = api.Secret{Seed: api.Digest{1, 2}, Prf: api.Digest{3}, Pub: api.Digest{31: 4}}

const (
	layer  = 3
	number = 1<<32 + 5
)

// leaf is a leaf, as the document describes it.
func leaf(s api.Secret, layer uint32, number uint64, i uint32) api.Digest {
	parts := wots.Public(s.Seed, s.Pub, adrs.Ots(layer, number, i))
	d, _ := ltree.Compress(parts, s.Pub, adrs.Ltree(layer, number, i))
	return d
}

// levels returns all nodes, level by level, as the document describes them.
func levels(s api.Secret, layer uint32, number uint64, n int) [][]api.Digest {
	all := [][]api.Digest{nil}
	for i := range uint32(1 << n) {
		all[0] = append(all[0], leaf(s, layer, number, i))
	}
	for k := range n {
		var next []api.Digest
		for j := range len(all[k]) / 2 {
			at := adrs.Tree(layer, number)
			at[5], at[6] = uint32(k), uint32(j)
			next = append(next, ltree.Join(all[k][2*j], all[k][2*j+1], s.Pub, at))
		}
		all = append(all, next)
	}
	return all
}

func TestLeaf(t *testing.T) { // P10.1
	for _, i := range []int{0, 1, 7, 15, 16, 1 << 20, 1<<32 - 1, 1 << 32, 1<<32 + 7, -1, math.MinInt, math.MaxInt} {
		if tree.Leaf(secret, layer, number, i) != leaf(secret, layer, number, uint32(i)) {
			t.Errorf("leaf %d", i)
		}
	}
	other := secret
	other.Prf = api.Digest{77}
	if tree.Leaf(other, layer, number, 1) != tree.Leaf(secret, layer, number, 1) {
		t.Error("Prf does not matter")
	}
	if tree.Leaf(secret, math.MaxUint32, math.MaxUint64, 1) != leaf(secret, math.MaxUint32, math.MaxUint64, 1) {
		t.Error("the last layer and tree")
	}
}

func TestBuild(t *testing.T) { // P10.1, P10.3
	for n := 1; n <= 4; n++ {
		all := levels(secret, layer, number, n)
		for i := range 1 << n {
			if n == 4 && i%5 != 0 {
				continue
			}
			root, path, e := tree.Build(secret, layer, number, n, i)
			if e != api.OK || root != all[n][0] {
				t.Errorf("%d levels, leaf %d: root, %d", n, i, e)
			}
			var want []api.Digest
			for k := range n {
				want = append(want, all[k][i>>k^1])
			}
			if !slices.Equal(path, want) {
				t.Errorf("%d levels, leaf %d: path", n, i)
			}
			if got, e := tree.Climb(all[0][i], path, i, secret.Pub, layer, number); got != root || e != api.OK {
				t.Errorf("%d levels, leaf %d: climbing", n, i)
			}
		}
	}
}

func TestBuildOneLevel(t *testing.T) { // example 1
	root, path, _ := tree.Build(secret, 0, 0, 1, 1)
	zero, one := leaf(secret, 0, 0, 0), leaf(secret, 0, 0, 1)
	if root != ltree.Join(zero, one, secret.Pub, adrs.Tree(0, 0)) || len(path) != 1 || path[0] != zero {
		t.Error("one level")
	}
}

func TestBuildWrong(t *testing.T) { // P10.1
	for _, c := range [][2]int{
		{0, 0}, {-1, 0}, {5, 0}, {math.MinInt, 0}, {math.MaxInt, 0}, {64, 0}, {63, 1},
		{1, -1}, {1, 2}, {2, 4}, {3, 8}, {4, 16}, {4, -1}, {2, math.MaxInt}, {2, math.MinInt},
	} {
		if root, path, e := tree.Build(secret, 0, 0, c[0], c[1]); e != api.ErrArg || root != (api.Digest{}) || path != nil {
			t.Errorf("%d levels, leaf %d: %d", c[0], c[1], e)
		}
	}
}

func TestClimb(t *testing.T) { // P10.2
	x := api.Digest{9}
	for n := 1; n <= 4; n++ {
		var way []api.Digest
		for k := range n {
			way = append(way, api.Digest(sha256.Sum256([]byte{byte(k)})))
		}
		for i := range 1 << n {
			want := x
			for k := range n {
				at := adrs.Tree(layer, number)
				at[5], at[6] = uint32(k), uint32(i>>(k+1))
				if i>>k&1 == 0 {
					want = ltree.Join(want, way[k], secret.Pub, at)
				} else {
					want = ltree.Join(way[k], want, secret.Pub, at)
				}
			}
			if got, e := tree.Climb(x, way, i, secret.Pub, layer, number); got != want || e != api.OK {
				t.Errorf("%d nodes, leaf %d: %d", n, i, e)
			}
		}
		for _, i := range []int{-1, 1 << n, 1<<n + 1, math.MinInt, math.MaxInt} {
			if got, e := tree.Climb(x, way, i, secret.Pub, layer, number); got != (api.Digest{}) || e != api.ErrArg {
				t.Errorf("%d nodes, leaf %d: %d", n, i, e)
			}
		}
	}
}

func TestClimbWrongPaths(t *testing.T) { // P10.2
	for _, n := range []int{0, 5, 6, 63, 64, 65, 1000} {
		if got, e := tree.Climb(api.Digest{9}, make([]api.Digest, n), 0, secret.Pub, 0, 0); got != (api.Digest{}) || e != api.ErrArg {
			t.Errorf("%d nodes: %d", n, e)
		}
	}
	if _, e := tree.Climb(api.Digest{9}, nil, 0, secret.Pub, 0, 0); e != api.ErrArg {
		t.Error("nil")
	}
}

func TestMemory(t *testing.T) { // R3
	way := []api.Digest{{1}, {2}}
	tree.Climb(api.Digest{9}, way, 3, secret.Pub, 0, 0)
	if way[0] != (api.Digest{1}) || way[1] != (api.Digest{2}) {
		t.Error("the argument was changed")
	}
	_, a, _ := tree.Build(secret, 0, 0, 2, 1)
	_, b, _ := tree.Build(secret, 0, 0, 2, 1)
	clear(a)
	if b[0] == (api.Digest{}) {
		t.Error("results share memory")
	}
}
