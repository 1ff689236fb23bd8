package world_test

import (
	"bytes"
	"math"
	"reflect"
	"slices"
	"strconv"
	"testing"

	"planchet/api"
	"planchet/directory"
	"planchet/disk"
	"planchet/fence"
	"planchet/hyper"
	"planchet/verify"
	"planchet/wire"
	"planchet/world"
)

const size = 320 // bytes of a sector

var config = directory.Config{
	Shape: api.Shape{Layers: 2, Levels: 1}, Batch: 2, Master: api.Digest{1, 2, 3}, Names: api.Digest{4, 5, 6},
}

func fresh(t *testing.T) *world.World {
	t.Helper()
	w, e := world.New(config, 8, size)
	if e != api.OK || w == nil {
		t.Fatal("New", e)
	}
	return w
}

func do(t *testing.T, w *world.World, a world.Act, want api.Errno) {
	t.Helper()
	if got := w.Do(a); got != int(want) {
		t.Errorf("%v: %d, not %d", a, got, want)
	}
}

func change(kind int, name, value string) world.Act {
	return world.Act{Kind: world.Change, N: kind, Name: []byte(name), Value: []byte(value)}
}

var (
	publish = world.Act{Kind: world.Publish}
	roll    = world.Act{Kind: world.Roll}
	crash   = world.Act{Kind: world.Crash}
	save    = world.Act{Kind: world.Save}
)

func TestNew(t *testing.T) { // P24.1
	for i, c := range []struct {
		c             directory.Config
		sectors, size int
		want          api.Errno
	}{
		{config, 0, size, api.ErrArg}, {config, 65, size, api.ErrArg}, {config, 8, 513, api.ErrArg}, {config, -1, math.MinInt, api.ErrArg},
		{directory.Config{}, 8, size, api.ErrArg}, {directory.Config{Shape: config.Shape}, 8, size, api.ErrArg},
		{config, 3, size, api.ErrArg}, {config, 8, 317, api.ErrArg}, {config, 1, 1, api.ErrArg},
	} {
		if w, e := world.New(c.c, c.sectors, c.size); w != nil || e != c.want {
			t.Errorf("case %d: %d", i, e)
		}
		if w, codes, e := world.Run(c.c, c.sectors, c.size, []world.Act{publish}); w != nil || codes != nil || e != c.want {
			t.Errorf("case %d: %d", i, e)
		}
	}
	w := fresh(t)
	d, _ := disk.New(8, size)
	directory.Open(config, d, fence.New())
	if !bytes.Equal(w.Image(), d.Image()) || w.Directory() == nil || w.Directory().Epoch() != 0 || w.Signed() != nil {
		t.Error("a new world")
	}
	if w, e := world.New(config, 4, 318); w == nil || e != api.OK {
		t.Errorf("a small disk: %d", e)
	}
}

func TestConstants(t *testing.T) {
	got := []int{world.Change, world.Publish, world.Roll, world.Fail, world.Crash, world.Save, world.Restore, world.MaxActs}
	if !slices.Equal(got, []int{1, 2, 3, 4, 5, 6, 7, 100}) {
		t.Error(got)
	}
}

func TestKinds(t *testing.T) { // P24.1
	w := fresh(t)
	before := w.Image()
	for _, kind := range []int{0, -1, 8, 100, math.MinInt, math.MaxInt} {
		do(t, w, world.Act{Kind: kind, N: 1, Name: []byte("a")}, api.ErrArg)
	}
	do(t, w, world.Act{}, api.ErrArg)
	if !bytes.Equal(before, w.Image()) || w.Signed() != nil {
		t.Error("something has changed")
	}
	do(t, w, change(directory.Register, "", ""), api.ErrArg)
	do(t, w, change(9, "a", ""), api.ErrArg)
	do(t, w, change(directory.Update, "a", ""), api.ErrNone)
	do(t, w, change(directory.Register, "a", "x"), api.OK)
	do(t, w, change(directory.Register, "a", "x"), api.ErrTwice)
	do(t, w, publish, api.OK)
	do(t, w, change(directory.Update, "a", "y"), api.OK)
	do(t, w, publish, api.OK)
	do(t, w, publish, api.OK)
	do(t, w, publish, api.ErrSpent)
	do(t, w, roll, api.OK)
	do(t, w, publish, api.OK)
	x := w.Directory()
	a, e := x.History([]byte("a"))
	if e != api.OK || len(a.Shown) != 2 || string(a.Shown[1].Value) != "\x01y" || x.Epoch() != 4 || x.Key() != 1 {
		t.Error("the directory")
	}
}

func TestSigned(t *testing.T) { // P24.1
	w := fresh(t)
	var want []world.Signed
	for i, a := range []world.Act{publish, roll, change(directory.Register, "a", ""), publish, publish, publish, publish, roll} {
		code := w.Do(a)
		x := w.Directory()
		switch {
		case a.Kind == world.Publish && code == 0:
			h, sig, _ := x.Head(x.Epoch())
			want = append(want, world.Signed{Key: h.Key, Text: wire.HeadText(h), Sig: sig})
		case a.Kind == world.Roll:
			k := x.Key() - 1
			text := wire.KeyText(k+1, x.Public(k+1))
			sig, _ := hyper.Sign(x.Public(k), directory.Secret(config.Master, k), []int{1, 3}[k], text)
			want = append(want, world.Signed{Key: k, Text: text, Sig: sig})
		}
		if !reflect.DeepEqual(w.Signed(), want) {
			t.Errorf("act %d: %d: what was signed", i, code)
		}
	}
	if len(want) != 6 {
		t.Errorf("%d were signed", len(want))
	}
	l := w.Signed() // R3
	l[0].Text[0], l[0].Key = 99, 99
	clear(l[0].Sig.Parts[0].Ots)
	clear(l[1].Sig.Parts[1].Auth)
	l[2].Sig.Parts[0] = api.Part{}
	if !reflect.DeepEqual(w.Signed(), want) {
		t.Error("results share memory")
	}
}

func TestFailAndCrash(t *testing.T) { // P24.1
	w := fresh(t)
	do(t, w, change(directory.Register, "a", ""), api.OK)
	do(t, w, publish, api.OK)
	before := w.Image()
	old := w.Directory()
	do(t, w, world.Act{Kind: world.Fail, N: 1}, api.OK)
	do(t, w, change(directory.Register, "b", ""), api.OK)
	do(t, w, publish, api.ErrGone)
	do(t, w, publish, api.ErrGone)
	do(t, w, roll, api.ErrGone)
	do(t, w, change(directory.Register, "c", ""), api.ErrGone)
	do(t, w, save, api.OK)
	if !bytes.Equal(before, w.Image()) || w.Directory() != old || len(w.Signed()) != 1 {
		t.Error("something has changed")
	}
	do(t, w, crash, api.OK)
	if w.Directory() == old || w.Directory().Epoch() != 1 || bytes.Equal(before, w.Image()) {
		t.Error("the directory was not opened again")
	}
	do(t, w, change(directory.Register, "b", ""), api.OK) // no change waits
	do(t, w, world.Act{Kind: world.Fail, N: 0}, api.OK)
	do(t, w, crash, api.OK) // no failure is set
	do(t, w, change(directory.Register, "b", ""), api.OK)
	do(t, w, world.Act{Kind: world.Fail, N: 0}, api.OK)
	do(t, w, world.Act{Kind: world.Fail, N: -1}, api.OK)
	do(t, w, roll, api.OK)
	do(t, w, publish, api.OK)
	if w.Directory().Epoch() != 2 || w.Directory().Key() != 1 {
		t.Error("the directory")
	}
}

// TestKeep: what the lists say is kept of a write that fails.
func TestKeep(t *testing.T) { // P24.1
	for _, all := range []bool{false, true} {
		w := fresh(t)
		do(t, w, change(directory.Register, "a", ""), api.OK)
		keep := []int{5}
		if all {
			keep[0] = size
		}
		do(t, w, world.Act{Kind: world.Fail, N: 5, Keep: keep}, api.OK) // the text of the slots
		do(t, w, publish, api.ErrGone)
		do(t, w, crash, api.OK)
		if got := w.Directory().Epoch() == 1; got != all {
			t.Errorf("kept: %t, %t", all, got)
		}
	}
}

func TestSaveAndRestore(t *testing.T) { // P24.1
	w := fresh(t)
	do(t, w, save, api.OK)
	do(t, w, change(directory.Register, "a", ""), api.OK)
	do(t, w, publish, api.OK)
	do(t, w, save, api.OK)
	do(t, w, change(directory.Update, "a", "x"), api.OK)
	do(t, w, roll, api.OK)
	do(t, w, publish, api.OK)
	for _, c := range [][2]int{{1, 1}, {2, 1}, {-1, 1}, {math.MinInt, 1}, {math.MaxInt, 1}, {0, 0}, {1, 1}, {0, 0}, {5, 0}} {
		do(t, w, world.Act{Kind: world.Restore, N: c[0]}, api.OK)
		if w.Directory().Epoch() != c[1] || w.Directory().Key() != 1 {
			t.Errorf("restored %d: %d epochs, key number %d", c[0], w.Directory().Epoch(), w.Directory().Key())
		}
	}
	do(t, w, change(directory.Register, "a", "y"), api.OK)
	do(t, w, world.Act{Kind: world.Fail, N: 0}, api.OK)
	do(t, w, world.Act{Kind: world.Restore, N: 9}, api.OK) // as Crash
	do(t, w, change(directory.Register, "a", "y"), api.OK)
	do(t, w, world.Act{Kind: world.Restore, N: 1}, api.OK)
	do(t, w, change(directory.Register, "a", "y"), api.ErrTwice)
	if len(w.Signed()) != 3 {
		t.Errorf("%d were signed", len(w.Signed()))
	}
}

func TestImage(t *testing.T) { // P24.1, R3
	w := fresh(t)
	before := w.Image()
	clear(w.Image())
	if !bytes.Equal(before, w.Image()) {
		t.Error("results share memory")
	}
	do(t, w, publish, api.OK)
	if bytes.Equal(before, w.Image()) || len(before) != 8*size {
		t.Error("the image")
	}
}

func TestArgumentsAreLeftAlone(t *testing.T) { // R3
	a := change(directory.Register, "name", "value")
	f := world.Act{Kind: world.Fail, N: 5, Keep: []int{size}}
	w := fresh(t)
	do(t, w, a, api.OK)
	do(t, w, f, api.OK)
	a.Name[0], a.Value[0], f.Keep[0] = 'x', 'x', 0
	do(t, w, publish, api.ErrGone)
	do(t, w, crash, api.OK)
	b, e := w.Directory().Lookup([]byte("name"))
	if e != api.OK || len(b.Shown) != 1 || string(b.Shown[0].Value) != "\x01value" {
		t.Error("an argument was kept")
	}
}

func TestRun(t *testing.T) { // P24.2
	if w, codes, e := world.Run(config, 8, size, nil); w == nil || codes != nil || e != api.OK || w.Signed() != nil { // example 1
		t.Errorf("no acts: %d", e)
	}
	acts := []world.Act{change(directory.Register, "a", ""), publish, publish, publish, publish, {Kind: 99}, roll, crash}
	w, codes, e := world.Run(config, 8, size, acts)
	if e != api.OK || !slices.Equal(codes, []int{0, 0, 0, 0, int(api.ErrSpent), int(api.ErrArg), 0, 0}) {
		t.Errorf("%v, %d", codes, e)
	}
	if w.Directory().Epoch() != 3 || w.Directory().Key() != 1 || len(w.Signed()) != 4 {
		t.Error("the world")
	}
	for _, n := range []int{100, 101, 1000} {
		w, codes, e := world.Run(config, 8, size, make([]world.Act, n))
		if n == 100 {
			if w == nil || len(codes) != 100 || e != api.OK {
				t.Errorf("100 acts: %d", e)
			}
		} else if w != nil || codes != nil || e != api.ErrFull {
			t.Errorf("%d acts: %d", n, e)
		}
	}
	if _, _, e := world.Run(directory.Config{}, 0, 0, make([]world.Act, 101)); e != api.ErrFull {
		t.Errorf("R2: %d", e)
	}
}

func TestMoreActsThanAScript(t *testing.T) { // P24.1: Do has no limit
	w := fresh(t)
	for range 150 {
		do(t, w, world.Act{Kind: world.Fail, N: -1}, api.OK)
	}
}

func TestNil(t *testing.T) { // P24.3
	var w *world.World
	for kind := -1; kind < 10; kind++ {
		do(t, w, world.Act{Kind: kind}, api.ErrGone)
	}
	if w.Directory() != nil || w.Signed() != nil || w.Image() != nil {
		t.Error("a nil world")
	}
}

// script returns acts that a number tells.
func script(seed uint64) []world.Act {
	x := seed*2654435761 + 1
	random := func(n int) int {
		x ^= x << 13
		x ^= x >> 7
		x ^= x << 17
		return int(x % uint64(n))
	}
	keep := func() []int {
		l := make([]int, random(4))
		for i := range l {
			l[i] = random(2*size) - 5
		}
		return l
	}
	var l []world.Act
	for range 40 {
		name := strconv.Itoa(random(3))
		switch random(12) {
		case 0, 1, 2, 3:
			l = append(l, change(1+random(3), name, "")) // the value is ruled out for none
		case 4, 5, 6:
			l = append(l, publish)
		case 7:
			l = append(l, roll)
		case 8:
			l = append(l, world.Act{Kind: world.Fail, N: random(8), Keep: keep()})
		case 9:
			l = append(l, world.Act{Kind: world.Crash, Keep: keep()})
		case 10:
			l = append(l, save)
		case 11:
			l = append(l, world.Act{Kind: world.Restore, N: random(4), Keep: keep()})
		}
	}
	return l
}

// TestScripts runs many scripts, and checks what holds whatever fails.
func TestScripts(t *testing.T) { // P24.1, P24.2, T1, T2, T3, T5
	for seed := range uint64(16) {
		w := fresh(t)
		acts := script(seed)
		var codes []int
		var heads []wire.Head // of the epochs that should exist
		var saved [][]wire.Head
		for i, a := range acts {
			before := w.Directory().Epoch()
			code := w.Do(a)
			codes = append(codes, code)
			x := w.Directory()
			if x == nil {
				t.Fatalf("script %d, act %d: no directory is open", seed, i)
			}
			switch {
			case a.Kind == world.Publish && code == 0:
				h, _, _ := x.Head(before + 1)
				heads = append(heads, h)
			case a.Kind == world.Save:
				saved = append(saved, slices.Clone(heads))
			case a.Kind == world.Restore && a.N < len(saved):
				heads = slices.Clone(saved[a.N])
			}
			if a.Kind == world.Crash || a.Kind == world.Restore {
				if n := x.Epoch(); n == len(heads)+1 { // the one that was being published exists completely
					h, _, _ := x.Head(n)
					heads = append(heads, h)
				}
			}
			if x.Epoch() != len(heads) {
				t.Fatalf("script %d, act %d: %d epochs, not %d", seed, i, x.Epoch(), len(heads))
			}
		}
		for i, want := range heads {
			if h, _, e := w.Directory().Head(i + 1); e != api.OK || h != want {
				t.Errorf("script %d: epoch %d", seed, i+1)
			}
		}
		signedOnce(t, seed, w)
		accepted(t, seed, w)
		other, again, e := world.Run(config, 8, size, acts) // R4
		if e != api.OK || !slices.Equal(codes, again) || !reflect.DeepEqual(w.Signed(), other.Signed()) || !bytes.Equal(w.Image(), other.Image()) {
			t.Errorf("script %d: another run", seed)
		}
	}
}

// signedOnce checks that no index of a key has signed two texts, and that all signatures are valid.
func signedOnce(t *testing.T, seed uint64, w *world.World) {
	t.Helper()
	texts := map[[2]int]string{}
	for _, s := range w.Signed() {
		at := [2]int{s.Key, s.Sig.Index}
		if old, ok := texts[at]; ok && old != string(s.Text) {
			t.Errorf("script %d: index %d of key %d signed two texts", seed, s.Sig.Index, s.Key)
		}
		texts[at] = string(s.Text)
		if !hyper.Verify(w.Directory().Public(s.Key), s.Sig, s.Text) {
			t.Errorf("script %d: a signature is not valid", seed)
		}
	}
}

// accepted checks that everything that the directory shows is accepted.
func accepted(t *testing.T, seed uint64, w *world.World) {
	t.Helper()
	x := w.Directory()
	last, _, e := x.Head(x.Epoch())
	if e != api.OK {
		return // no epochs
	}
	for n := 1; n <= x.Epoch(); n++ {
		h, sig, _ := x.Head(n)
		way, _ := x.Audit(n)
		if !verify.Head(x.Public(h.Key), h, sig) || !verify.Grows(h, last, way) {
			t.Errorf("script %d: epoch %d is not accepted", seed, n)
		}
	}
	for i := range 4 {
		name := []byte(strconv.Itoa(i))
		a, e := x.Lookup(name)
		b, f := x.History(name)
		if e != api.OK || f != api.OK || !verify.Lookup(last.Tree, name, a) || !verify.History(last.Tree, name, b) {
			t.Errorf("script %d: name %d is not accepted", seed, i)
		}
	}
}

func TestEachCrashLosesAtMostTheBatch(t *testing.T) { // T4
	c := config
	c.Shape = api.Shape{Layers: 1, Levels: 4}
	w, _ := world.New(c, 8, size)
	used := 0
	for range 4 {
		do(t, w, publish, api.OK)
		l := w.Signed()
		index := l[len(l)-1].Sig.Index
		if index < used || index > used+c.Batch {
			t.Errorf("index %d after %d", index, used-1)
		}
		used = index + 1
		do(t, w, crash, api.OK)
	}
}

func TestAKeySignsAllButOne(t *testing.T) { // T4
	c := config
	c.Shape = api.Shape{Layers: 1, Levels: 3}
	w, _ := world.New(c, 8, size)
	for key := range 2 {
		for range 7 {
			do(t, w, publish, api.OK)
		}
		do(t, w, publish, api.ErrSpent)
		do(t, w, roll, api.OK)
		l := w.Signed()
		for i, s := range l[8*key:] {
			if s.Key != key || s.Sig.Index != i {
				t.Errorf("index %d of key %d, not %d of %d", s.Sig.Index, s.Key, i, key)
			}
		}
	}
}
