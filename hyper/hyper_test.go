package hyper_test

import (
	"math"
	"reflect"
	"slices"
	"testing"

	"planchet/adrs"
	"planchet/api"
	"planchet/hyper"
	"planchet/keyed"
	"planchet/pack"
	"planchet/tree"
	"planchet/wots"
)

var secret = api.Secret{Seed: api.Digest{1, 2}, Prf: api.Digest{3}, Pub: api.Digest{31: 4}}

var text = []byte("what is signed")

func shape(layers, levels int) api.Shape {
	return api.Shape{Layers: layers, Levels: levels}
}

func key(t *testing.T, s api.Shape) api.Public {
	t.Helper()
	p, e := hyper.Key(s, secret)
	if e != api.OK {
		t.Fatal("Key", e)
	}
	return p
}

func sign(t *testing.T, p api.Public, index int) api.Sig {
	t.Helper()
	sig, e := hyper.Sign(p, secret, index, text)
	if e != api.OK {
		t.Fatal("Sign", e)
	}
	return sig
}

func TestShapes(t *testing.T) { // P11.1
	for layers := -2; layers < 8; layers++ {
		for levels := -2; levels < 8; levels++ {
			right := layers >= 1 && layers <= 4 && levels >= 1 && levels <= 4
			many := 0
			if right {
				many = int(math.Pow(2, float64(layers*levels)))
			}
			if hyper.Right(shape(layers, levels)) != right || hyper.Many(shape(layers, levels)) != many {
				t.Errorf("%d layers, %d levels", layers, levels)
			}
			if !right {
				if p, e := hyper.Key(shape(layers, levels), secret); p != (api.Public{}) || e != api.ErrArg {
					t.Errorf("the key of %d layers, %d levels: %d", layers, levels, e)
				}
			}
		}
	}
	for _, s := range []api.Shape{{}, shape(math.MaxInt, 1), shape(1, math.MaxInt), shape(math.MinInt, math.MinInt)} {
		if hyper.Right(s) || hyper.Many(s) != 0 {
			t.Errorf("%v", s)
		}
	}
	if hyper.Many(shape(2, 2)) != 16 || hyper.Many(shape(4, 4)) != 65536 {
		t.Error("Many")
	}
}

func TestKey(t *testing.T) { // P11.1
	for _, s := range []api.Shape{shape(1, 1), shape(2, 2), shape(3, 1), shape(4, 2), shape(1, 4)} {
		root, _, _ := tree.Build(secret, uint32(s.Layers-1), 0, s.Levels, 0)
		if p := key(t, s); p != (api.Public{Shape: s, Root: root, Pub: secret.Pub}) {
			t.Errorf("the key of %v", s)
		}
	}
}

// signed is a signature, as the document describes it.
func signed(p api.Public, s api.Secret, index int) api.Sig {
	sig := api.Sig{Index: index, R: keyed.Prf(s.Prf, pack.Number(uint64(index), 32))}
	digest := keyed.Message(sig.R, p.Root, uint64(index), text)
	rest := index
	for layer := range uint32(p.Shape.Layers) {
		leaf, number := rest%(1<<p.Shape.Levels), rest>>p.Shape.Levels
		root, auth, _ := tree.Build(s, layer, uint64(number), p.Shape.Levels, leaf)
		ots := wots.Sign(digest, s.Seed, s.Pub, adrs.Ots(layer, uint64(number), uint32(leaf)))
		sig.Parts = append(sig.Parts, api.Part{Ots: ots, Auth: auth})
		digest, rest = root, number
	}
	return sig
}

func TestSign(t *testing.T) { // P11.2, P11.3, P11.4
	for s, some := range map[api.Shape][]int{
		shape(1, 1): {0, 1}, shape(2, 1): {0, 1, 2, 3}, shape(2, 2): {0, 1, 6, 11, 15}, shape(1, 3): {0, 5, 7},
		shape(4, 1): {0, 5, 10, 15}, shape(3, 2): {0, 27, 63}, shape(2, 4): {0xa7, 255}, shape(4, 4): {0xb6d1, 65535},
	} {
		p := key(t, s)
		for _, index := range some {
			sig := sign(t, p, index)
			if !reflect.DeepEqual(sig, signed(p, secret, index)) {
				t.Errorf("%v: index %d", s, index)
			}
			if !hyper.Verify(p, sig, text) {
				t.Errorf("%v: index %d is not valid", s, index)
			}
		}
	}
}

func TestSignWithAnotherRoot(t *testing.T) { // P11.2: the Root of p counts, its Pub does not
	p := key(t, shape(2, 1))
	p.Pub = api.Digest{99}
	if !reflect.DeepEqual(sign(t, p, 1), signed(p, secret, 1)) {
		t.Error("another Pub")
	}
	p.Root = api.Digest{98}
	if !reflect.DeepEqual(sign(t, p, 1), signed(p, secret, 1)) {
		t.Error("another Root")
	}
}

func TestSignWrong(t *testing.T) { // P11.2, R2
	for _, c := range []struct {
		shape api.Shape
		index int
		want  api.Errno
	}{
		{shape(0, 1), 0, api.ErrArg}, {shape(1, 0), 0, api.ErrArg}, {shape(5, 1), 0, api.ErrArg}, {shape(1, 5), 0, api.ErrArg},
		{shape(0, 1), 1000, api.ErrArg}, {shape(2, 1), -1, api.ErrArg}, {shape(2, 1), math.MinInt, api.ErrArg},
		{shape(0, 0), -1, api.ErrArg}, {shape(2, 1), 4, api.ErrSpent}, {shape(2, 1), math.MaxInt, api.ErrSpent},
		{shape(1, 1), 2, api.ErrSpent}, {shape(4, 4), 65536, api.ErrSpent},
	} {
		sig, e := hyper.Sign(api.Public{Shape: c.shape}, secret, c.index, text)
		if e != c.want || !reflect.DeepEqual(sig, api.Sig{}) {
			t.Errorf("%v, index %d: %d", c.shape, c.index, e)
		}
	}
}

func TestParts(t *testing.T) { // P11.2, P11.3
	p := key(t, shape(2, 1))
	whole := sign(t, p, 2)
	for i := range text {
		sig, e := hyper.Sign(p, secret, 2, text[:i], nil, text[i:])
		if e != api.OK || !reflect.DeepEqual(sig, whole) || !hyper.Verify(p, sig, text[:i], text[i:], nil) {
			t.Errorf("parts at %d", i)
		}
	}
	none, e := hyper.Sign(p, secret, 2)
	if e != api.OK || !hyper.Verify(p, none) || !hyper.Verify(p, none, nil, nil) || hyper.Verify(p, none, text) {
		t.Error("no parts")
	}
}

// clone returns a copy that shares nothing.
func clone(s api.Sig) api.Sig {
	s.Parts = slices.Clone(s.Parts)
	for i, x := range s.Parts {
		s.Parts[i] = api.Part{Ots: slices.Clone(x.Ots), Auth: slices.Clone(x.Auth)}
	}
	return s
}

func TestVerifyOtherBytes(t *testing.T) { // P11.3
	p := key(t, shape(2, 2))
	good := sign(t, p, 6)
	for what, change := range map[string]func(p *api.Public, s *api.Sig){
		"Root":      func(p *api.Public, s *api.Sig) { p.Root[31] ^= 1 },
		"Pub":       func(p *api.Public, s *api.Sig) { p.Pub[0] ^= 128 },
		"R":         func(p *api.Public, s *api.Sig) { s.R[5] ^= 2 },
		"Index":     func(p *api.Public, s *api.Sig) { s.Index = 7 },
		"tree":      func(p *api.Public, s *api.Sig) { s.Index = 10 },
		"Ots":       func(p *api.Public, s *api.Sig) { s.Parts[0].Ots[0][0] ^= 1 },
		"last Ots":  func(p *api.Public, s *api.Sig) { s.Parts[1].Ots[66][31] ^= 1 },
		"Auth":      func(p *api.Public, s *api.Sig) { s.Parts[0].Auth[0][0] ^= 1 },
		"last Auth": func(p *api.Public, s *api.Sig) { s.Parts[1].Auth[1][31] ^= 1 },
		"order":     func(p *api.Public, s *api.Sig) { slices.Reverse(s.Parts) },
	} {
		other, sig := p, clone(good)
		change(&other, &sig)
		if hyper.Verify(other, sig, text) {
			t.Errorf("%s was changed, and it is still valid", what)
		}
	}
	if !hyper.Verify(p, good, text) || hyper.Verify(p, good, text[1:]) || hyper.Verify(p, good) || hyper.Verify(p, good, text, []byte{0}) {
		t.Error("the text")
	}
}

func TestVerifyWrongForms(t *testing.T) { // P11.3, P11.4, R1
	p := key(t, shape(2, 2))
	good := sign(t, p, 6)
	one := api.Digest{1}
	for what, change := range map[string]func(p *api.Public, s *api.Sig){
		"no parts":        func(p *api.Public, s *api.Sig) { s.Parts = nil },
		"fewer parts":     func(p *api.Public, s *api.Sig) { s.Parts = s.Parts[:1] },
		"last part alone": func(p *api.Public, s *api.Sig) { s.Parts = s.Parts[1:] },
		"more parts":      func(p *api.Public, s *api.Sig) { s.Parts = append(s.Parts, s.Parts[1]) },
		"empty part":      func(p *api.Public, s *api.Sig) { s.Parts[1] = api.Part{} },
		"fewer Ots":       func(p *api.Public, s *api.Sig) { s.Parts[0].Ots = s.Parts[0].Ots[:66] },
		"more Ots":        func(p *api.Public, s *api.Sig) { s.Parts[1].Ots = append(s.Parts[1].Ots, one) },
		"fewer Auth":      func(p *api.Public, s *api.Sig) { s.Parts[0].Auth = s.Parts[0].Auth[:1] },
		"no Auth":         func(p *api.Public, s *api.Sig) { s.Parts[1].Auth = nil },
		"more Auth":       func(p *api.Public, s *api.Sig) { s.Parts[1].Auth = append(s.Parts[1].Auth, one) },
		"index below 0":   func(p *api.Public, s *api.Sig) { s.Index = -10 },
		"index 16":        func(p *api.Public, s *api.Sig) { s.Index = 16 },
		"index 22":        func(p *api.Public, s *api.Sig) { s.Index = 22 },
		"index 2^32 + 6":  func(p *api.Public, s *api.Sig) { s.Index = 1<<32 + 6 },
		"index of int":    func(p *api.Public, s *api.Sig) { s.Index = math.MinInt },
		"no shape":        func(p *api.Public, s *api.Sig) { p.Shape = api.Shape{} },
		"other shape":     func(p *api.Public, s *api.Sig) { p.Shape = shape(1, 2) },
		"other levels":    func(p *api.Public, s *api.Sig) { p.Shape = shape(2, 3) },
		"wrong shape":     func(p *api.Public, s *api.Sig) { p.Shape = shape(2, 5) },
		"negative shape":  func(p *api.Public, s *api.Sig) { p.Shape = shape(-1, math.MinInt) },
	} {
		other, sig := p, clone(good)
		change(&other, &sig)
		if hyper.Verify(other, sig, text) {
			t.Errorf("%s: still valid", what)
		}
	}
	if hyper.Verify(api.Public{}, api.Sig{}) || hyper.Verify(p, api.Sig{}, text) {
		t.Error("zero values")
	}
}

// forged returns a key with that root, and a signature by the secret, with that index and a part for
// each list of siblings: all sums are right, but not all numbers.
func forged(s api.Shape, index, levels int, auth ...[]api.Digest) (api.Public, api.Sig) {
	var leaves, numbers []uint64
	rest := uint64(index)
	for range auth {
		leaves = append(leaves, rest%(1<<levels))
		rest >>= levels
		numbers = append(numbers, rest)
	}
	var tops []api.Digest
	for i := range auth {
		root, path, _ := tree.Build(secret, uint32(i), numbers[i], levels, int(leaves[i]))
		if auth[i] == nil {
			auth[i] = path
		} else {
			leaf := tree.Leaf(secret, uint32(i), numbers[i], int(leaves[i]))
			root, _ = tree.Climb(leaf, auth[i], int(leaves[i]), secret.Pub, uint32(i), numbers[i])
		}
		tops = append(tops, root)
	}
	p := api.Public{Shape: s, Root: tops[len(tops)-1], Pub: secret.Pub}
	sig := api.Sig{Index: index, R: api.Digest{5}}
	digest := keyed.Message(sig.R, p.Root, uint64(index), text)
	for i, root := range tops {
		ots := wots.Sign(digest, secret.Seed, secret.Pub, adrs.Ots(uint32(i), numbers[i], uint32(leaves[i])))
		sig.Parts = append(sig.Parts, api.Part{Ots: ots, Auth: auth[i]})
		digest = root
	}
	return p, sig
}

func TestVerifyWhatIsForged(t *testing.T) { // P11.3
	two := []api.Digest{{1}, {2}}
	for i, c := range []struct {
		shape         api.Shape
		index, levels int
		auth          [][]api.Digest
		want          bool
	}{
		{shape(1, 2), 1, 2, [][]api.Digest{nil}, true},
		{shape(2, 2), 6, 2, [][]api.Digest{nil, nil}, true},
		{shape(1, 2), 1, 2, [][]api.Digest{two}, true},
		{shape(2, 2), 1, 2, [][]api.Digest{nil}, false},       // fewer parts
		{shape(1, 2), 1, 2, [][]api.Digest{nil, nil}, false},  // more parts
		{shape(1, 2), 4, 2, [][]api.Digest{nil}, false},       // no index of the shape
		{shape(1, 2), 5, 2, [][]api.Digest{nil}, false},       // no index of the shape
		{shape(2, 2), 16, 2, [][]api.Digest{nil, nil}, false}, // no index of the shape
		{shape(1, 2), -3, 2, [][]api.Digest{nil}, false},      // below 0
		{shape(1, 2), 1, 2, [][]api.Digest{{{1}, {2}, {3}}}, false},
		{shape(1, 2), 1, 2, [][]api.Digest{{{1}}}, false},
		{shape(2, 2), 5, 2, [][]api.Digest{{{1}, {2}, {3}}, nil}, false},
		{shape(2, 2), 5, 2, [][]api.Digest{nil, {{1}}}, false},
		{shape(5, 1), 1, 1, [][]api.Digest{nil, nil, nil, nil, nil}, false},
	} {
		if p, sig := forged(c.shape, c.index, c.levels, c.auth...); hyper.Verify(p, sig, text) != c.want {
			t.Errorf("case %d", i)
		}
	}
}

// TestVerifyOfAnotherShape: it has as many indices, but others are their ways.
func TestVerifyOfAnotherShape(t *testing.T) { // P11.3
	p := key(t, shape(1, 2))
	sig := sign(t, p, 3)
	if !hyper.Verify(p, sig, text) {
		t.Fatal("not valid")
	}
	p.Shape = shape(2, 1)
	if hyper.Verify(p, sig, text) {
		t.Error("another shape")
	}
}

func TestMemory(t *testing.T) { // R3, R4
	p := key(t, shape(2, 1))
	a, b := sign(t, p, 1), sign(t, p, 1)
	clear(a.Parts[0].Ots)
	clear(a.Parts[1].Auth)
	if !hyper.Verify(p, b, text) || !reflect.DeepEqual(b, signed(p, secret, 1)) || string(text) != "what is signed" {
		t.Error("memory is shared")
	}
}
