package directory_test

import (
	"bytes"
	"math"
	"reflect"
	"slices"
	"strconv"
	"testing"

	"planchet/api"
	"planchet/directory"
	"planchet/disk"
	"planchet/fence"
	"planchet/hyper"
	"planchet/log"
	"planchet/pack"
	"planchet/wire"
)

// sign returns the signature of a text by a key of a directory.
func sign(t *testing.T, c directory.Config, key, index int, text []byte) api.Sig {
	t.Helper()
	s := directory.Secret(c.Master, key)
	p, _ := hyper.Key(c.Shape, s)
	sig, e := hyper.Sign(p, s, index, text)
	if e != api.OK {
		t.Fatal("hyper.Sign", e)
	}
	return sig
}

// head returns the head of the last one of the epochs with these roots.
func head(t *testing.T, key int, roots []api.Digest) wire.Head {
	t.Helper()
	var l [][]byte
	for i, d := range roots {
		l = append(l, wire.EpochText(i+1, d))
	}
	top, e := log.Root(l)
	if e != api.OK {
		t.Fatal("log.Root", e)
	}
	return wire.Head{Key: key, Epoch: len(roots), Tree: roots[len(roots)-1], Log: top}
}

func TestPublish(t *testing.T) { // P21.3, P21.4
	c := config(1, 2)
	d, f := fresh(t, 8)
	x := open(t, c, d, f)
	var all []version
	var roots []api.Digest
	var heads []wire.Head
	var records []byte
	steps := []struct {
		kind int
		add  []version
	}{
		{directory.Register, []version{{"a", 1, live("one")}, {"b", 1, live("")}}},
		{directory.Update, []version{{"b", 2, live("two")}, {"a", 2, live("three")}}},
		{directory.Revoke, []version{{"a", 3, []byte{0}}}},
		{directory.Register, nil},
	}
	for i, step := range steps {
		if i == 3 {
			key, sig, e := x.Roll()
			text := wire.KeyText(1, x.Public(1))
			if key != 0 || e != api.OK || !reflect.DeepEqual(sig, sign(t, c, 0, 3, text)) || x.Key() != 1 {
				t.Errorf("Roll: %d, %d", key, e)
			}
		}
		for _, v := range step.add {
			change(t, x, step.kind, v.name, string(v.value[1:]), api.OK)
		}
		all = append(all, step.add...)
		roots = append(roots, root(t, c, all))
		want := head(t, i/3, roots)
		heads = append(heads, want)
		h, sig, e := x.Publish()
		if e != api.OK || h != want || !reflect.DeepEqual(sig, sign(t, c, i/3, i%3, wire.HeadText(want))) {
			t.Errorf("epoch %d: %v, %d", i+1, h, e)
		}
		records = append(records, record(uint64(i/3), uint64(i%3), step.add...)...)
		b, text := area(d)
		if !bytes.Equal(text, pack.Number(uint64(len(records)), 8)) || !bytes.Equal(b[:len(records)], records) || bytes.ContainsFunc(b[len(records):], func(r rune) bool { return r != 0 }) {
			t.Errorf("epoch %d: the disk", i+1)
		}
	}
	for range 2 { // also after it is opened again
		if x.Epoch() != 4 || x.Key() != 1 {
			t.Errorf("epoch %d, key %d", x.Epoch(), x.Key())
		}
		for i, want := range heads {
			h, sig, e := x.Head(i + 1)
			if e != api.OK || h != want || !reflect.DeepEqual(sig, sign(t, c, i/3, i%3, wire.HeadText(want))) {
				t.Errorf("Head(%d): %d", i+1, e)
			}
		}
		x = open(t, c, d, f)
	}
	for _, n := range []int{0, -1, 5, math.MinInt, math.MaxInt} {
		if h, sig, e := x.Head(n); e != api.ErrTime || h != (wire.Head{}) || !reflect.DeepEqual(sig, api.Sig{}) {
			t.Errorf("Head(%d): %d", n, e)
		}
		if way, e := x.Audit(n); e != api.ErrTime || way != nil {
			t.Errorf("Audit(%d): %d", n, e)
		}
	}
	var texts [][]byte
	for i, d := range roots {
		texts = append(texts, wire.EpochText(i+1, d))
	}
	for m := 1; m <= 4; m++ {
		want, _ := log.From(texts, m)
		if way, e := x.Audit(m); e != api.OK || !slices.Equal(way, want) {
			t.Errorf("Audit(%d): %d", m, e)
		}
	}
}

func TestPublic(t *testing.T) { // P21.4
	c := config(2, 1)
	d, f := fresh(t, 8)
	x := open(t, c, d, f)
	for _, k := range []int{0, 1, 1000, -1, math.MinInt} {
		want, _ := hyper.Key(c.Shape, directory.Secret(c.Master, k))
		if x.Public(k) != want {
			t.Errorf("Public(%d)", k)
		}
	}
	if x.Epoch() != 0 || x.Key() != 0 {
		t.Error("a new directory")
	}
	if _, _, e := x.Head(1); e != api.ErrTime {
		t.Error("no epochs")
	}
}

func TestWithoutChanges(t *testing.T) { // P21.3
	c := config(1, 1)
	d, f := fresh(t, 5)
	x := open(t, c, d, f)
	if h := publish(t, x); h != head(t, 0, []api.Digest{root(t, c, nil)}) {
		t.Error("an epoch without changes")
	}
}

func TestSpent(t *testing.T) { // P21.3: the error of signer.Deal; T4
	c := config(1, 1)
	d, f := fresh(t, 8)
	x := open(t, c, d, f)
	change(t, x, directory.Register, "a", "x", api.OK)
	publish(t, x)
	change(t, x, directory.Register, "b", "y", api.OK)
	for range 2 {
		if h, sig, e := x.Publish(); e != api.ErrSpent || h != (wire.Head{}) || !reflect.DeepEqual(sig, api.Sig{}) {
			t.Errorf("Publish: %d", e)
		}
	}
	change(t, x, directory.Update, "b", "y", api.ErrTwice) // the change still waits
	change(t, x, directory.Update, "a", "z", api.OK)       // and it has not stopped
	if key, _, e := x.Roll(); key != 0 || e != api.OK || x.Key() != 1 {
		t.Errorf("Roll: %d", e)
	}
	h := publish(t, x)
	all := []version{{"a", 1, live("x")}, {"b", 1, live("y")}, {"a", 2, live("z")}}
	if h.Tree != root(t, c, all) || h.Key != 1 {
		t.Error("the waiting changes")
	}
	for range 3 {
		x = open(t, c, d, f) // each opening loses what was reserved
	}
	if key, _, e := x.Roll(); key != 1 || e != api.OK {
		t.Errorf("Roll: %d, %d", key, e)
	}
}

func TestRollThatIsSpent(t *testing.T) { // P21.3: the error of signer.Roll
	c := config(1, 1)
	d, f := fresh(t, 8)
	f.Raise(fence.Marks{Gen: 1, Key: 3, High: 2})
	x := open(t, c, d, f)
	if key, sig, e := x.Roll(); key != 0 || e != api.ErrSpent || !reflect.DeepEqual(sig, api.Sig{}) || x.Key() != 3 {
		t.Errorf("Roll: %d, %d", key, e)
	}
	if x.Change(directory.Register, []byte("a"), nil) != api.OK { // it has not stopped
		t.Error("Change")
	}
}

func TestSeveralRolls(t *testing.T) { // P21.3
	c := config(1, 2)
	d, f := fresh(t, 8)
	x := open(t, c, d, f)
	publish(t, x)
	for key, index := range []int{1, 0, 0} {
		got, sig, e := x.Roll()
		if got != key || e != api.OK || !reflect.DeepEqual(sig, sign(t, c, key, index, wire.KeyText(key+1, x.Public(key+1)))) {
			t.Errorf("Roll: %d, %d", got, e)
		}
	}
	if h := publish(t, x); h.Key != 3 || h.Epoch != 2 {
		t.Errorf("%v", h)
	}
}

func TestNoRoom(t *testing.T) { // P21.3
	c := config(2, 3)
	d, f := fresh(t, 7)
	b := empty(20)
	lay(t, d, pack.Number(uint64(len(b)), 8), b)
	f.Raise(fence.Marks{Gen: 1, Key: 0, High: 20})
	x := open(t, c, d, f)
	left := 3*size - len(b)
	var l []version
	for i := 0; len(record(0, 0, l...)) <= left; i++ {
		v := version{strconv.Itoa(100 + i), 1, live(string(make([]byte, 20)))}
		l = append(l, v)
		change(t, x, directory.Register, v.name, string(v.value[1:]), api.OK)
	}
	before := d.Image()
	marks := f.Marks()
	if h, sig, e := x.Publish(); e != api.ErrFull || h != (wire.Head{}) || !reflect.DeepEqual(sig, api.Sig{}) {
		t.Errorf("Publish: %d", e)
	}
	if !bytes.Equal(before, d.Image()) || f.Marks() != marks || x.Epoch() != 20 {
		t.Error("something has changed")
	}
	change(t, x, directory.Register, l[0].name, "", api.ErrTwice) // the changes still wait
	if key, _, e := x.Roll(); key != 0 || e != api.OK {           // it has not stopped
		t.Errorf("Roll: %d", e)
	}
}

func TestTheLastByte(t *testing.T) { // P21.3: a record that just fits, and one that does not
	c := config(2, 2)
	for more := range 2 {
		d, f := fresh(t, 5)
		x := open(t, c, d, f)
		rest := size - len(record(0, 0))
		var l []version
		for len(l) < 3 {
			l = append(l, version{strconv.Itoa(len(l)), 1, live(string(make([]byte, 63)))})
		}
		n := rest - (len(record(0, 0, l...)) - len(record(0, 0))) - (len(record(0, 0, version{"", 1, live("")})) - len(record(0, 0)))
		l = append(l, version{string(bytes.Repeat([]byte{'n'}, 10)), 1, live(string(make([]byte, n-10+more)))})
		if len(record(0, 0, l...)) != size+more {
			t.Fatal("the test", len(record(0, 0, l...)))
		}
		for _, v := range l {
			change(t, x, directory.Register, v.name, string(v.value[1:]), api.OK)
		}
		_, _, e := x.Publish()
		if want := []api.Errno{api.OK, api.ErrFull}[more]; e != want {
			t.Errorf("%d bytes more: %d", more, e)
		}
	}
}

func TestMostEpochs(t *testing.T) { // P21.3
	c := config(2, 4)
	for _, n := range []int{199, 200} {
		d, f := fresh(t, 30)
		b := empty(n)
		f.Raise(fence.Marks{Gen: 1, Key: 0, High: n})
		lay(t, d, pack.Number(uint64(len(b)), 8), b)
		x := open(t, c, d, f)
		if x.Epoch() != n {
			t.Fatalf("%d epochs", x.Epoch())
		}
		_, _, e := x.Publish()
		if want := map[int]api.Errno{199: api.OK, 200: api.ErrFull}[n]; e != want || x.Epoch() != 200 {
			t.Errorf("%d epochs: %d", n, e)
		}
	}
}

// TestFailures lets the power fail at each step of publishing, and at each one of rolling over.
func TestFailures(t *testing.T) { // P21.3, T2
	c := config(1, 2)
	for after := range 9 {
		for _, keep := range [][]int{nil, {size, size, size}, {7, 9}, {size, 9}} {
			d, f := fresh(t, 8)
			x := open(t, c, d, f)
			change(t, x, directory.Register, "first", "x", api.OK)
			one := publish(t, x)
			for i := range 5 { // so many that the record touches several sectors
				change(t, x, directory.Register, strconv.Itoa(i), string(make([]byte, 60)), api.OK)
			}
			d.Fail(after, keep)
			h, sig, e := x.Publish()
			// Two steps are the signer's, then two or three writes, a sync, and the two of the slots.
			if (e == api.OK) != (after >= 7) || e != api.OK && (e != api.ErrGone || h != (wire.Head{}) || !reflect.DeepEqual(sig, api.Sig{})) {
				t.Errorf("after %d: %d", after, e)
			}
			if e != api.OK {
				stopped(t, x, d)
			}
			d.Crash(keep)
			d.Boot()
			again := open(t, c, d, f)
			if n := again.Epoch(); n != 1 && (n != 2 || after < 5) || e == api.OK && n != 2 {
				t.Errorf("after %d: %d epochs", after, n)
			}
			if got, _, e := again.Head(1); e != api.OK || got != one {
				t.Errorf("after %d: the first epoch", after)
			}
			for again.Epoch() < 2 { // those changes come again
				for i := range 5 {
					change(t, again, directory.Register, strconv.Itoa(i), string(make([]byte, 60)), api.OK)
				}
				publish(t, again)
			}
			if got, _, _ := again.Head(2); e == api.OK && got != h || len(got.Tree) == 0 {
				t.Errorf("after %d: the second epoch", after)
			}
		}
	}
}

// stopped checks a directory that has stopped, with one epoch, and a change of "0" that waits.
func stopped(t *testing.T, x *directory.Directory, d *disk.Disk) {
	t.Helper()
	d.Boot()
	before := d.Image()
	change(t, x, directory.Register, "0", "", api.ErrGone)
	change(t, x, directory.Register, "new", "", api.ErrGone)
	change(t, x, directory.Update, "none", "", api.ErrGone)
	change(t, x, 0, "new", "", api.ErrArg)
	if _, _, e := x.Publish(); e != api.ErrGone {
		t.Errorf("Publish: %d", e)
	}
	if _, _, e := x.Roll(); e != api.ErrGone {
		t.Errorf("Roll: %d", e)
	}
	if x.Epoch() != 1 || x.Key() != 0 || !bytes.Equal(before, d.Image()) {
		t.Error("it has stopped")
	}
	if _, _, e := x.Head(1); e != api.OK {
		t.Errorf("Head: %d", e)
	}
	if _, e := x.Lookup([]byte("first")); e != api.OK {
		t.Errorf("Lookup: %d", e)
	}
}

func TestRollFails(t *testing.T) { // P21.3
	c := config(1, 2)
	for after := range 2 {
		d, f := fresh(t, 8)
		x := open(t, c, d, f)
		change(t, x, directory.Register, "first", "x", api.OK)
		publish(t, x)
		d.Fail(after, nil)
		if key, sig, e := x.Roll(); key != 0 || e != api.ErrGone || !reflect.DeepEqual(sig, api.Sig{}) {
			t.Errorf("after %d: %d", after, e)
		}
		stopped(t, x, d)
		if again := open(t, c, d, f); again.Key() != 1 || again.Epoch() != 1 {
			t.Error("the fence tells of the next key")
		}
	}
}

func TestTheSameIndexAgain(t *testing.T) { // T1: a head that was signed before the power failed gets its index again
	c := config(1, 2)
	d, f := fresh(t, 8)
	x := open(t, c, d, f)
	change(t, x, directory.Register, "a", "x", api.OK)
	d.Fail(2, nil) // the signer has assigned the index
	if _, _, e := x.Publish(); e != api.ErrGone {
		t.Fatal(e)
	}
	d.Boot()
	x = open(t, c, d, f)
	change(t, x, directory.Register, "a", "x", api.OK)
	_, sig, e := x.Publish()
	if e != api.OK || sig.Index != 0 {
		t.Errorf("the same head: %d, %d", sig.Index, e)
	}
	d, f = fresh(t, 8)
	x = open(t, c, d, f)
	change(t, x, directory.Register, "a", "x", api.OK)
	d.Fail(2, nil)
	x.Publish()
	d.Boot()
	x = open(t, c, d, f)
	change(t, x, directory.Register, "a", "y", api.OK)
	_, sig, e = x.Publish()
	if e != api.OK || sig.Index != 2 { // as many as the batch were reserved
		t.Errorf("another head: %d, %d", sig.Index, e)
	}
}

func TestPreviousBytes(t *testing.T) { // P21.3: each sector is written with its previous bytes
	c := config(1, 2)
	d, f := fresh(t, 6)
	x := open(t, c, d, f)
	publish(t, x)
	image := d.Image()
	for i := 4 * size; i < len(image); i++ {
		if image[i] == 0 && i >= 4*size+26 {
			image[i] = 99
		}
	}
	d.Restore(image)
	x = open(t, c, d, f)
	publish(t, x)
	b, _ := area(d)
	want := append(record(0, 0), record(0, 2)...)
	if !bytes.Equal(b[:52], want) || !bytes.Equal(b[52:], bytes.Repeat([]byte{99}, 2*size-52)) {
		t.Error("the area")
	}
}

func TestMemory(t *testing.T) { // R3
	c := config(1, 2)
	d, f := fresh(t, 8)
	x := open(t, c, d, f)
	name, value := []byte("name"), []byte("value")
	x.Change(directory.Register, name, value)
	name[0], value[0] = 'x', 'x'
	h, sig, _ := x.Publish()
	if h.Tree != root(t, c, []version{{"name", 1, live("value")}}) {
		t.Error("an argument was kept")
	}
	clear(sig.Parts[0].Ots)
	if _, again, _ := x.Head(1); !reflect.DeepEqual(again, sign(t, c, 0, 0, wire.HeadText(h))) {
		t.Error("a signature shares memory")
	}
	a, _ := x.Lookup([]byte("name"))
	a.Shown[0].Value[1] = 'x'
	clear(a.Shown[0].Proof.Nodes)
	b, _ := x.Lookup([]byte("name"))
	if string(b.Shown[0].Value) != "\x01value" {
		t.Error("an answer shares memory")
	}
}

func TestNil(t *testing.T) { // P21.6
	var x *directory.Directory
	change(t, x, directory.Register, "a", "", api.ErrGone)
	change(t, x, directory.Register, "", "", api.ErrArg)
	change(t, x, 9, "a", "", api.ErrArg)
	if h, sig, e := x.Publish(); e != api.ErrGone || h != (wire.Head{}) || !reflect.DeepEqual(sig, api.Sig{}) {
		t.Errorf("Publish: %d", e)
	}
	if key, sig, e := x.Roll(); key != 0 || e != api.ErrGone || !reflect.DeepEqual(sig, api.Sig{}) {
		t.Errorf("Roll: %d", e)
	}
	if x.Epoch() != 0 || x.Key() != 0 || x.Public(0) != (api.Public{}) || x.Public(5) != (api.Public{}) {
		t.Error("a nil directory")
	}
	for n := range 3 {
		if h, sig, e := x.Head(n); e != api.ErrTime || h != (wire.Head{}) || !reflect.DeepEqual(sig, api.Sig{}) {
			t.Errorf("Head: %d", e)
		}
		if way, e := x.Audit(n); e != api.ErrTime || way != nil {
			t.Errorf("Audit: %d", e)
		}
	}
	for _, show := range []func([]byte) (directory.Answer, api.Errno){x.Lookup, x.History} {
		if a, e := show([]byte("a")); e != api.ErrTime || !reflect.DeepEqual(a, directory.Answer{}) {
			t.Errorf("%d", e)
		}
		if _, e := show(nil); e != api.ErrArg {
			t.Errorf("%d", e)
		}
	}
}
