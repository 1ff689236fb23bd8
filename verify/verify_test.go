package verify_test

import (
	"math"
	"slices"
	"strconv"
	"testing"

	"planchet/api"
	"planchet/commit"
	"planchet/directory"
	"planchet/disk"
	"planchet/fence"
	"planchet/hyper"
	"planchet/ptree"
	"planchet/verify"
	"planchet/wire"
)

var (
	shape  = api.Shape{Layers: 2, Levels: 1}
	secret = directory.Secret(api.Digest{1}, 0)
	names  = api.Digest{9}
	name   = []byte("name")
)

func key(t *testing.T) api.Public {
	t.Helper()
	p, e := hyper.Key(shape, secret)
	if e != api.OK {
		t.Fatal("hyper.Key", e)
	}
	return p
}

func TestHead(t *testing.T) { // P22.1
	p := key(t)
	h := wire.Head{Key: 3, Epoch: 4, Tree: api.Digest{5}, Log: api.Digest{6}}
	sig, e := hyper.Sign(p, secret, 2, wire.HeadText(h))
	if e != api.OK || !verify.Head(p, h, sig) {
		t.Fatal("the head", e)
	}
	for i, other := range []wire.Head{
		{Key: 2, Epoch: 4, Tree: h.Tree, Log: h.Log}, {Key: 3, Epoch: 5, Tree: h.Tree, Log: h.Log},
		{Key: 3, Epoch: 4, Tree: h.Log, Log: h.Log}, {Key: 3, Epoch: 4, Tree: h.Tree, Log: h.Tree}, {},
	} {
		if verify.Head(p, other, sig) {
			t.Errorf("another head: case %d", i)
		}
	}
	other := p
	other.Root[0] ^= 1
	if verify.Head(other, h, sig) || verify.Head(api.Public{}, h, sig) || verify.Head(p, h, api.Sig{}) || verify.Head(api.Public{}, wire.Head{}, api.Sig{}) {
		t.Error("another key or signature")
	}
	sig.Index = 1
	if verify.Head(p, h, sig) {
		t.Error("another index")
	}
}

func TestNext(t *testing.T) { // P22.1
	p := key(t)
	next, _ := hyper.Key(shape, directory.Secret(api.Digest{1}, 1))
	sig, e := hyper.Sign(p, secret, 3, wire.KeyText(1, next))
	if e != api.OK || !verify.Next(p, 1, next, sig) {
		t.Fatal("the next key", e)
	}
	other := next
	other.Shape.Levels = 2
	if verify.Next(p, 2, next, sig) || verify.Next(p, 1, p, sig) || verify.Next(p, 1, other, sig) || verify.Next(next, 1, next, sig) {
		t.Error("another key")
	}
	if verify.Next(p, 1, next, api.Sig{}) || verify.Next(api.Public{}, 0, api.Public{}, api.Sig{}) {
		t.Error("another signature")
	}
	h := wire.Head{Key: 1, Epoch: 1}
	if verify.Head(p, h, sig) {
		t.Error("a head")
	}
}

// entry returns the entry of a version, the nonce and the salt.
func entry(t *testing.T, name []byte, version int, value string) (ptree.Entry, api.Digest, api.Digest) {
	t.Helper()
	index, nonce, e := commit.Index(names, name, version)
	commitment, salt, f := commit.Value(names, index, []byte(value))
	if e != api.OK || f != api.OK {
		t.Fatal("commit", e, f)
	}
	return ptree.Entry{Index: index, Commitment: commitment}, nonce, salt
}

func prove(t *testing.T, l []ptree.Entry, index api.Digest) ptree.Proof {
	t.Helper()
	p, e := ptree.Prove(l, index)
	if e != api.OK {
		t.Fatal("ptree.Prove", e)
	}
	return p
}

func root(t *testing.T, l []ptree.Entry) api.Digest {
	t.Helper()
	d, e := ptree.Root(l)
	if e != api.OK {
		t.Fatal("ptree.Root", e)
	}
	return d
}

// tree returns a tree with versions of the name, and others; and, for these numbers, what is shown of them.
func tree(t *testing.T, versions, show []int, next int) (api.Digest, directory.Answer) {
	t.Helper()
	var l []ptree.Entry
	for _, v := range versions {
		x, _, _ := entry(t, name, v, "value "+strconv.Itoa(v))
		l = append(l, x)
	}
	for i := range 5 {
		x, _, _ := entry(t, []byte("other"), i+1, "value")
		l = append(l, x)
	}
	var a directory.Answer
	for _, v := range show {
		x, nonce, salt := entry(t, name, v, "value "+strconv.Itoa(v))
		a.Shown = append(a.Shown, directory.Shown{
			Version: v, Value: []byte("value " + strconv.Itoa(v)), Nonce: nonce, Salt: salt, Proof: prove(t, l, x.Index),
		})
	}
	x, nonce, _ := entry(t, name, next, "")
	a.Next, a.Absent = nonce, prove(t, l, x.Index)
	return root(t, l), a
}

func TestShown(t *testing.T) { // P22.2
	top, a := tree(t, []int{1, 2}, []int{1, 2}, 3)
	for _, x := range a.Shown {
		if !verify.Shown(top, name, x) {
			t.Fatalf("version %d", x.Version)
		}
	}
	for what, change := range map[string]func(x *directory.Shown){
		"version":       func(x *directory.Shown) { x.Version = 1 },
		"version 0":     func(x *directory.Shown) { x.Version = 0 },
		"version below": func(x *directory.Shown) { x.Version = -2 },
		"value":         func(x *directory.Shown) { x.Value = []byte("value 1") },
		"no value":      func(x *directory.Shown) { x.Value = nil },
		"long value":    func(x *directory.Shown) { x.Value = make([]byte, 65) },
		"nonce":         func(x *directory.Shown) { x.Nonce[1] ^= 1 },
		"salt":          func(x *directory.Shown) { x.Salt[1] ^= 1 },
		"known":         func(x *directory.Shown) { x.Proof.Known[3] ^= 1 },
		"no proof":      func(x *directory.Shown) { x.Proof = ptree.Proof{} },
		"fewer nodes":   func(x *directory.Shown) { x.Proof.Nodes = x.Proof.Nodes[1:] },
		"more nodes":    func(x *directory.Shown) { x.Proof.Nodes = append(slices.Clone(x.Proof.Nodes), api.Digest{}) },
		"other proof":   func(x *directory.Shown) { x.Proof = a.Shown[0].Proof },
		"all":           func(x *directory.Shown) { *x = directory.Shown{} },
	} {
		x := a.Shown[1]
		change(&x)
		if verify.Shown(top, name, x) {
			t.Errorf("another %s", what)
		}
	}
	for _, other := range [][]byte{nil, []byte("nane"), make([]byte, 65)} {
		if verify.Shown(top, other, a.Shown[0]) {
			t.Errorf("another name of %d bytes", len(other))
		}
	}
	if top[0] ^= 1; verify.Shown(top, name, a.Shown[0]) {
		t.Error("another root")
	}
}

// TestShownOfWhatIsNotPermitted: the proof would do, but the name, the version or the value is not permitted.
func TestShownOfWhatIsNotPermitted(t *testing.T) { // P22.2
	nonce, salt := api.Digest{1}, api.Digest{2}
	index, _ := commit.From(nonce, name, 1)
	for _, x := range []ptree.Entry{{}, {Index: index}} {
		p := prove(t, []ptree.Entry{x}, x.Index)
		d := root(t, []ptree.Entry{x})
		for i, c := range []struct {
			name    []byte
			version int
			value   []byte
		}{
			{nil, 1, nil}, {make([]byte, 65), 1, nil}, {name, 0, nil}, {name, math.MinInt, nil}, {name, 1, make([]byte, 65)},
			{name, 1, make([]byte, 100)},
		} {
			if verify.Shown(d, c.name, directory.Shown{Version: c.version, Value: c.value, Nonce: nonce, Salt: salt, Proof: p}) {
				t.Errorf("case %d", i)
			}
		}
	}
}

func TestLookup(t *testing.T) { // P22.3
	for i, c := range []struct {
		versions, show []int
		next           int
		want           bool
	}{
		{nil, nil, 1, true},
		{nil, nil, 2, false},
		{[]int{1}, []int{1}, 2, true},
		{[]int{1, 2, 3}, []int{3}, 4, true},
		{[]int{7}, []int{7}, 8, true},
		{[]int{1}, nil, 1, false},
		{[]int{1, 2}, []int{1}, 2, false},
		{[]int{1, 2}, []int{1}, 3, false},
		{[]int{1, 2}, []int{1, 2}, 3, false},
		{[]int{1, 2}, []int{2, 1}, 2, false},
		{[]int{1, 2}, []int{2, 2}, 3, false},
		{[]int{1}, []int{2}, 3, false},
		{[]int{math.MaxInt}, []int{math.MaxInt}, 1, false},
	} {
		d, a := tree(t, c.versions, c.show, c.next)
		if verify.Lookup(d, name, a) != c.want {
			t.Errorf("case %d", i)
		}
		if verify.Lookup(d, nil, a) || len(c.show) > 0 && verify.Lookup(d, []byte("x"), a) || verify.Lookup(d, make([]byte, 65), a) {
			t.Errorf("case %d: another name", i)
		}
		a.Absent.Nodes = append(a.Absent.Nodes, api.Digest{})
		if verify.Lookup(d, name, a) {
			t.Errorf("case %d: a node more", i)
		}
	}
	d, a := tree(t, []int{1}, []int{1}, 2)
	a.Shown[0].Value = []byte("other")
	if verify.Lookup(d, name, a) || verify.Lookup(d, name, directory.Answer{}) || verify.Lookup(api.Digest{}, nil, directory.Answer{}) {
		t.Error("another answer")
	}
}

func TestHistory(t *testing.T) { // P22.3
	for i, c := range []struct {
		versions, show []int
		next           int
		want           bool
	}{
		{nil, nil, 1, true},
		{nil, nil, 2, false},
		{[]int{1}, []int{1}, 2, true},
		{[]int{1, 2, 3, 4}, []int{1, 2, 3, 4}, 5, true},
		{[]int{1, 2, 3}, []int{3}, 4, false},
		{[]int{1, 2, 3}, []int{2, 3}, 4, false},
		{[]int{1, 2, 3}, []int{1, 3}, 4, false},
		{[]int{1, 3}, []int{1, 3}, 4, false},
		{[]int{1, 2, 3}, []int{1, 2}, 3, false},
		{[]int{1, 2, 3}, []int{1, 2}, 4, false},
		{[]int{1, 2, 3}, []int{2, 1, 3}, 4, false},
		{[]int{1, 2}, []int{1, 1, 2}, 3, false},
		{[]int{1}, nil, 1, false},
		{[]int{1, 2}, []int{1, 2, 3}, 4, false},
	} {
		d, a := tree(t, c.versions, c.show, c.next)
		if verify.History(d, name, a) != c.want {
			t.Errorf("case %d", i)
		}
		if verify.History(d, nil, a) || len(c.show) > 0 && verify.History(d, []byte("x"), a) || verify.History(d, make([]byte, 65), a) {
			t.Errorf("case %d: another name", i)
		}
		for j := range a.Shown {
			a.Shown[j].Salt[0] ^= 1
			if verify.History(d, name, a) {
				t.Errorf("case %d: another version %d", i, j)
			}
			a.Shown[j].Salt[0] ^= 1
		}
		a.Absent.Nodes = append(a.Absent.Nodes, api.Digest{})
		if verify.History(d, name, a) {
			t.Errorf("case %d: a node more", i)
		}
	}
}

func TestGrows(t *testing.T) { // P22.4
	x := filled(t)
	var heads []wire.Head
	for n := 1; n <= x.Epoch(); n++ {
		h, _, _ := x.Head(n)
		heads = append(heads, h)
	}
	last := heads[len(heads)-1]
	for m := 1; m <= x.Epoch(); m++ {
		a := heads[m-1]
		way, e := x.Audit(m)
		if e != api.OK || !verify.Grows(a, last, way) {
			t.Fatalf("from epoch %d: %d", m, e)
		}
		other := a
		other.Log[0] ^= 1
		if verify.Grows(other, last, way) || verify.Grows(a, other, way) || verify.Grows(a, last, append(way, api.Digest{})) {
			t.Errorf("from epoch %d: another head or path", m)
		}
		other = a
		other.Tree, other.Key = api.Digest{7}, 99 // these do not matter
		if !verify.Grows(other, last, way) {
			t.Errorf("from epoch %d: the tree", m)
		}
		if other.Epoch++; verify.Grows(other, last, way) {
			t.Errorf("from epoch %d: another epoch", m)
		}
		if m < x.Epoch() && verify.Grows(last, a, way) {
			t.Errorf("from epoch %d: the other way round", m)
		}
	}
	for _, c := range [][2]int{{0, 0}, {0, 1}, {-1, 1}, {math.MinInt, math.MaxInt}, {1, math.MaxInt}, {201, 201}} {
		if verify.Grows(wire.Head{Epoch: c[0]}, wire.Head{Epoch: c[1]}, nil) {
			t.Errorf("%v", c)
		}
	}
}

// filled returns a directory with five epochs, by two keys.
func filled(t *testing.T) *directory.Directory {
	t.Helper()
	d, _ := disk.New(20, 512)
	c := directory.Config{Shape: shape, Batch: 3, Master: api.Digest{1}, Names: names}
	x, e := directory.Open(c, d, fence.New())
	if e != api.OK {
		t.Fatal("Open", e)
	}
	for epoch := range 5 {
		if epoch == 3 {
			k, sig, e := x.Roll()
			if e != api.OK || !verify.Next(x.Public(k), k+1, x.Public(k+1), sig) {
				t.Fatal("Roll", e)
			}
		}
		for i := range 4 {
			kind := directory.Update
			if epoch == i {
				kind = directory.Register
			}
			x.Change(kind, []byte(strconv.Itoa(i)), []byte(strconv.Itoa(epoch)))
		}
		if epoch == 2 {
			x.Change(directory.Revoke, []byte("0"), nil)
		}
		if _, _, e := x.Publish(); e != api.OK {
			t.Fatal("Publish", e)
		}
	}
	return x
}

func TestWhatADirectoryShows(t *testing.T) { // T5
	x := filled(t)
	for n := 1; n <= x.Epoch(); n++ {
		h, sig, e := x.Head(n)
		if e != api.OK || !verify.Head(x.Public(h.Key), h, sig) || verify.Head(x.Public(h.Key+1), h, sig) {
			t.Errorf("epoch %d: %d", n, e)
		}
	}
	h, _, _ := x.Head(x.Epoch())
	for i := range 6 {
		name := []byte(strconv.Itoa(i))
		a, e := x.Lookup(name)
		if e != api.OK || !verify.Lookup(h.Tree, name, a) {
			t.Errorf("Lookup of %d: %d", i, e)
		}
		b, e := x.History(name)
		if e != api.OK || !verify.History(h.Tree, name, b) {
			t.Errorf("History of %d: %d", i, e)
		}
		if len(b.Shown) > 1 && (verify.History(h.Tree, name, a) || verify.Lookup(h.Tree, name, b)) {
			t.Errorf("%d: one for the other", i)
		}
	}
}
