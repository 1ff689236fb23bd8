package wire_test

import (
	"bytes"
	"crypto/sha256"
	"encoding/binary"
	"math"
	"reflect"
	"slices"
	"testing"

	"planchet/api"
	"planchet/wire"
)

func digest(i int) api.Digest {
	return api.Digest(sha256.Sum256([]byte{byte(i), byte(i >> 8)}))
}

func eight(n int) []byte {
	return binary.BigEndian.AppendUint64(nil, uint64(n))
}

func numbers() []int {
	return []int{0, 1, 2, 255, 256, 1 << 40, math.MaxInt, -1, -2, math.MinInt}
}

func TestHeadText(t *testing.T) { // P20.1, P20.3
	seen := map[string]bool{}
	tree, log := digest(1), digest(2)
	for _, key := range numbers() {
		for _, epoch := range numbers() {
			for _, h := range []wire.Head{{key, epoch, tree, log}, {key, epoch, log, tree}, {key, epoch, tree, tree}} {
				got := wire.HeadText(h)
				if !bytes.Equal(got, slices.Concat([]byte{1}, eight(key), eight(epoch), h.Tree[:], h.Log[:])) || len(got) != 81 {
					t.Errorf("%d, %d: %v", key, epoch, got)
				}
				if seen[string(got)] {
					t.Errorf("%d, %d: twice", key, epoch)
				}
				seen[string(got)] = true
			}
		}
	}
}

func TestEpochText(t *testing.T) { // P20.1
	tree := digest(1)
	for _, epoch := range numbers() {
		if got := wire.EpochText(epoch, tree); !bytes.Equal(got, append(eight(epoch), tree[:]...)) || len(got) != 40 {
			t.Errorf("%d: %v", epoch, got)
		}
	}
}

func TestKeyText(t *testing.T) { // P20.1, P20.3
	seen := map[string]bool{}
	for _, key := range numbers() {
		for _, layers := range numbers() {
			for _, levels := range numbers() {
				p := api.Public{Shape: api.Shape{Layers: layers, Levels: levels}, Root: digest(1), Pub: digest(2)}
				got := wire.KeyText(key, p)
				want := slices.Concat([]byte{2}, eight(key), eight(layers), eight(levels), p.Root[:], p.Pub[:])
				if !bytes.Equal(got, want) || len(got) != 89 {
					t.Errorf("%d, %d, %d: %v", key, layers, levels, got)
				}
				if seen[string(got)] {
					t.Errorf("%d, %d, %d: twice", key, layers, levels)
				}
				seen[string(got)] = true
			}
		}
	}
}

// signature returns one of a shape, with digests that all differ.
func signature(s api.Shape, index int) api.Sig {
	sig := api.Sig{Index: index, R: digest(999)}
	n := 0
	next := func(many int) []api.Digest {
		var l []api.Digest
		for range many {
			l = append(l, digest(n))
			n++
		}
		return l
	}
	for range s.Layers {
		sig.Parts = append(sig.Parts, api.Part{Ots: next(67), Auth: next(s.Levels)})
	}
	return sig
}

func encoded(s api.Sig) []byte {
	b := append(eight(s.Index), s.R[:]...)
	for _, p := range s.Parts {
		for _, d := range append(slices.Clone(p.Ots), p.Auth...) {
			b = append(b, d[:]...)
		}
	}
	return b
}

func TestPutAndGet(t *testing.T) { // P20.2, P20.3
	for layers := 1; layers <= 4; layers++ {
		for levels := 1; levels <= 4; levels++ {
			s := api.Shape{Layers: layers, Levels: levels}
			last := 1<<(layers*levels) - 1
			for _, index := range []int{0, 1, last} {
				sig := signature(s, index)
				b, e := wire.Put(s, sig)
				if e != api.OK || !bytes.Equal(b, encoded(sig)) {
					t.Errorf("%v, index %d: Put: %d", s, index, e)
				}
				got, e := wire.Get(s, b)
				if e != api.OK || !reflect.DeepEqual(got, sig) {
					t.Errorf("%v, index %d: Get: %d", s, index, e)
				}
			}
		}
	}
}

func TestPutErrors(t *testing.T) { // P20.2
	s := api.Shape{Layers: 2, Levels: 2}
	for what, change := range map[string]func(s *api.Shape, x *api.Sig){
		"zero shape":      func(s *api.Shape, x *api.Sig) { *s = api.Shape{} },
		"shape 0 layers":  func(s *api.Shape, x *api.Sig) { s.Layers, x.Parts = 0, nil },
		"shape 0 levels":  func(s *api.Shape, x *api.Sig) { s.Levels, x.Parts[0].Auth, x.Parts[1].Auth = 0, nil, nil },
		"shape 5 levels":  func(s *api.Shape, x *api.Sig) { s.Levels = 5; *x = signature(*s, 6) },
		"shape 5 layers":  func(s *api.Shape, x *api.Sig) { s.Layers = 5; *x = signature(*s, 6) },
		"shape below 0":   func(s *api.Shape, x *api.Sig) { s.Layers = math.MinInt },
		"index 16":        func(s *api.Shape, x *api.Sig) { x.Index = 16 },
		"index below 0":   func(s *api.Shape, x *api.Sig) { x.Index = -1 },
		"index far below": func(s *api.Shape, x *api.Sig) { x.Index = math.MinInt },
		"index above":     func(s *api.Shape, x *api.Sig) { x.Index = math.MaxInt },
		"no parts":        func(s *api.Shape, x *api.Sig) { x.Parts = nil },
		"one part":        func(s *api.Shape, x *api.Sig) { x.Parts = x.Parts[:1] },
		"three parts":     func(s *api.Shape, x *api.Sig) { x.Parts = append(x.Parts, x.Parts[0]) },
		"an empty part":   func(s *api.Shape, x *api.Sig) { x.Parts[1] = api.Part{} },
		"66 Ots":          func(s *api.Shape, x *api.Sig) { x.Parts[0].Ots = x.Parts[0].Ots[:66] },
		"68 Ots":          func(s *api.Shape, x *api.Sig) { x.Parts[1].Ots = append(x.Parts[1].Ots, digest(1)) },
		"one Auth":        func(s *api.Shape, x *api.Sig) { x.Parts[1].Auth = x.Parts[1].Auth[:1] },
		"three Auth":      func(s *api.Shape, x *api.Sig) { x.Parts[0].Auth = append(x.Parts[0].Auth, digest(1)) },
		"66 Ots, 3 Auth": func(s *api.Shape, x *api.Sig) {
			x.Parts[0].Ots, x.Parts[0].Auth = x.Parts[0].Ots[:66], append(x.Parts[0].Auth, digest(1))
		},
		"zero": func(s *api.Shape, x *api.Sig) { *x = api.Sig{} },
	} {
		shape, sig := s, signature(s, 6)
		change(&shape, &sig)
		if b, e := wire.Put(shape, sig); b != nil || e != api.ErrArg {
			t.Errorf("%s: %d", what, e)
		}
	}
}

func TestGetErrors(t *testing.T) { // P20.2
	s := api.Shape{Layers: 2, Levels: 2}
	good := encoded(signature(s, 6))
	for _, shape := range []api.Shape{{}, {Layers: 0, Levels: 1}, {Layers: 1}, {Layers: 5, Levels: 1}, {Layers: 1, Levels: 5}, {Layers: math.MinInt, Levels: math.MaxInt}} {
		if x, e := wire.Get(shape, good); !reflect.DeepEqual(x, api.Sig{}) || e != api.ErrArg {
			t.Errorf("%v: %d", shape, e)
		}
		if _, e := wire.Get(shape, nil); e != api.ErrArg {
			t.Errorf("%v: %d", shape, e)
		}
	}
	index := func(n uint64) []byte {
		return append(binary.BigEndian.AppendUint64(nil, n), good[8:]...)
	}
	for i, b := range [][]byte{
		nil, good[:8], good[:40], good[:len(good)-1], good[1:], append(slices.Clone(good), 0), append(slices.Clone(good), good...),
		good[:len(good)-32], append(slices.Clone(good), make([]byte, 32)...), index(16), index(22), index(1 << 32), index(1 << 63), index(math.MaxUint64),
	} {
		if x, e := wire.Get(s, b); !reflect.DeepEqual(x, api.Sig{}) || e != api.ErrForm {
			t.Errorf("case %d: %d", i, e)
		}
	}
	if _, e := wire.Get(api.Shape{Layers: 2, Levels: 3}, good); e != api.ErrForm {
		t.Error("another shape")
	}
	if x, e := wire.Get(s, index(15)); e != api.OK || x.Index != 15 {
		t.Error("index 15")
	}
}

func TestBackAndThere(t *testing.T) { // P20.3
	s := api.Shape{Layers: 3, Levels: 1}
	b := make([]byte, 8+32+3*68*32)
	for i := 8; i < len(b); i++ {
		b[i] = byte(i * 7)
	}
	b[7] = 5
	sig, e := wire.Get(s, b)
	if e != api.OK {
		t.Fatal("Get", e)
	}
	if got, e := wire.Put(s, sig); e != api.OK || !bytes.Equal(got, b) {
		t.Error("Put")
	}
}

func TestMemory(t *testing.T) { // R3
	s := api.Shape{Layers: 2, Levels: 2}
	b := encoded(signature(s, 6))
	got, _ := wire.Get(s, b)
	clear(b)
	if !reflect.DeepEqual(got, signature(s, 6)) {
		t.Error("Get shares memory")
	}
	for i := range got.Parts { // no two lists share memory
		got.Parts[i].Ots = append(got.Parts[i].Ots, api.Digest{})
		got.Parts[i].Auth = append(got.Parts[i].Auth, api.Digest{})
	}
	again := signature(s, 6)
	for i, p := range got.Parts {
		if !slices.Equal(p.Ots[:67], again.Parts[i].Ots) || !slices.Equal(p.Auth[:2], again.Parts[i].Auth) {
			t.Error("lists share memory")
		}
	}
	sig := signature(s, 6)
	wire.Put(s, sig)
	if !reflect.DeepEqual(sig, signature(s, 6)) {
		t.Error("Put changed its argument")
	}
}
