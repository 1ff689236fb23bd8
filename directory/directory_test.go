package directory_test

import (
	"math"
	"slices"
	"strconv"
	"testing"

	"planchet/api"
	"planchet/commit"
	"planchet/directory"
	"planchet/disk"
	"planchet/fence"
	"planchet/mac"
	"planchet/pack"
	"planchet/ptree"
	"planchet/slots"
	"planchet/wire"
)

const size = 320 // bytes of a sector

func config(layers, levels int) directory.Config {
	return directory.Config{
		Shape: api.Shape{Layers: layers, Levels: levels}, Batch: 2,
		Master: api.Digest{1, 2, 3}, Names: api.Digest{4, 5, 6},
	}
}

func fresh(t *testing.T, sectors int) (*disk.Disk, *fence.Fence) {
	t.Helper()
	d, e := disk.New(sectors, size)
	if e != api.OK {
		t.Fatal("disk.New", e)
	}
	return d, fence.New()
}

func open(t *testing.T, c directory.Config, d *disk.Disk, f *fence.Fence) *directory.Directory {
	t.Helper()
	x, e := directory.Open(c, d, f)
	if e != api.OK || x == nil {
		t.Fatal("Open", e)
	}
	return x
}

func change(t *testing.T, x *directory.Directory, kind int, name, value string, want api.Errno) {
	t.Helper()
	if e := x.Change(kind, []byte(name), []byte(value)); e != want {
		t.Errorf("Change(%d, %q, %q): %d, not %d", kind, name, value, e, want)
	}
}

func publish(t *testing.T, x *directory.Directory) wire.Head {
	t.Helper()
	h, _, e := x.Publish()
	if e != api.OK {
		t.Fatal("Publish", e)
	}
	return h
}

// version is what a test expects of a version of a name.
type version struct {
	name   string
	number int
	value  []byte
}

func entry(t *testing.T, c directory.Config, v version) ptree.Entry {
	t.Helper()
	index, _, e := commit.Index(c.Names, []byte(v.name), v.number)
	commitment, _, f := commit.Value(c.Names, index, v.value)
	if e != api.OK || f != api.OK {
		t.Fatal("commit", e, f)
	}
	return ptree.Entry{Index: index, Commitment: commitment}
}

func entries(t *testing.T, c directory.Config, l []version) []ptree.Entry {
	t.Helper()
	var all []ptree.Entry
	for _, v := range l {
		all = append(all, entry(t, c, v))
	}
	return all
}

func root(t *testing.T, c directory.Config, l []version) api.Digest {
	t.Helper()
	d, e := ptree.Root(entries(t, c, l))
	if e != api.OK {
		t.Fatal("ptree.Root", e)
	}
	return d
}

// record returns a record as the document describes it.
func record(key, index uint64, l ...version) []byte {
	row := [][]byte{pack.Number(key, 8), pack.Number(index, 8)}
	for _, v := range l {
		b, _ := pack.Row([]byte(v.name), pack.Number(uint64(v.number), 8), v.value)
		row = append(row, b)
	}
	b, _ := pack.Row(row...)
	return append(pack.Number(uint64(len(b)), 4), b...)
}

// empty returns the records of n epochs without changes, with the indices from 0 on.
func empty(n int) []byte {
	var b []byte
	for i := range n {
		b = append(b, record(0, uint64(i))...)
	}
	return b
}

// area returns the content of the area on a disk, and the text of the slots.
func area(d *disk.Disk) ([]byte, []byte) {
	other, _ := disk.New(d.Sectors(), d.Size())
	other.Restore(d.Image())
	s, _ := slots.Open(other, 2)
	return d.Image()[4*size:], s.Text()
}

// lay puts an area on a disk.
func lay(t *testing.T, d *disk.Disk, text []byte, b []byte) {
	t.Helper()
	s, _ := slots.Open(d, 2)
	if s.Replace(text) != api.OK {
		t.Fatal("Replace")
	}
	image := d.Image()
	copy(image[4*size:], b)
	d.Restore(image)
}

func TestSecret(t *testing.T) { // P21.1
	master := api.Digest{7, 8}
	for _, k := range []int{0, 1, 258, math.MaxInt, -1, math.MinInt} {
		code := func(x byte) api.Digest {
			return mac.Code(master[:], append([]byte{x}, pack.Number(uint64(k), 8)...))
		}
		if directory.Secret(master, k) != (api.Secret{Seed: code(1), Prf: code(2), Pub: code(3)}) {
			t.Errorf("key number %d", k)
		}
	}
}

func TestOpenErrors(t *testing.T) { // P21.1, R2
	d, f := fresh(t, 5)
	three, _ := fresh(t, 3)
	small, _ := disk.New(5, 317)
	off, _ := fresh(t, 5)
	off.Crash(nil)
	good := config(1, 1)
	batch := good
	batch.Batch = 17
	none := good
	none.Batch = 0
	for i, c := range []struct {
		c    directory.Config
		d    *disk.Disk
		f    *fence.Fence
		want api.Errno
	}{
		{config(0, 1), nil, nil, api.ErrArg}, {config(1, 0), d, f, api.ErrArg}, {config(5, 1), off, f, api.ErrArg},
		{config(1, 5), nil, f, api.ErrArg}, {directory.Config{}, nil, f, api.ErrArg}, {config(math.MinInt, math.MaxInt), d, f, api.ErrArg},
		{good, d, nil, api.ErrArg}, {good, nil, nil, api.ErrArg}, {batch, d, f, api.ErrArg}, {none, off, f, api.ErrArg},
		{good, nil, f, api.ErrGone}, {good, off, f, api.ErrGone}, {good, small, f, api.ErrArg}, {good, three, f, api.ErrArg},
	} {
		if x, e := directory.Open(c.c, c.d, c.f); x != nil || e != c.want {
			t.Errorf("case %d: %d", i, e)
		}
	}
	d, _ = fresh(t, 5)
	d.Fail(0, nil)
	if x, e := directory.Open(good, d, f); x != nil || e != api.ErrGone {
		t.Errorf("a disk that fails: %d", e)
	}
	four, f := fresh(t, 4) // there is no room for any record
	x := open(t, good, four, f)
	if _, _, e := x.Publish(); e != api.ErrFull {
		t.Errorf("no area: %d", e)
	}
}

func TestOpenOfWrongSigner(t *testing.T) { // P21.1: the error of signer.Open comes before that of the area
	d, f := fresh(t, 5)
	s, _ := slots.Open(d, 0)
	s.Replace([]byte("no state"))
	if x, e := directory.Open(config(1, 1), d, f); x != nil || e != api.ErrForm || f.Marks() != (fence.Marks{}) {
		t.Errorf("%d", e)
	}
}

func live(s string) []byte {
	return append([]byte{1}, s...)
}

func TestOpenOfWhatIsNotAsDescribed(t *testing.T) { // P21.1
	a, b := version{"a", 1, live("x")}, version{"b", 1, live("y")}
	gone := version{"a", 2, []byte{0}}
	good := record(0, 0, a, b)
	length := func(n int) []byte { return pack.Number(uint64(n), 8) }
	long := version{string(make([]byte, 65)), 1, live("")}
	big := version{"a", 1, live(string(make([]byte, 64)))}
	var many []version
	for i := range 17 {
		many = append(many, version{strconv.Itoa(i), 1, live("")})
	}
	prefixed := func(b []byte) []byte { return append(pack.Number(uint64(len(b)), 4), b...) }
	short, _ := pack.Row(pack.Number(0, 7), pack.Number(0, 8))
	alone, _ := pack.Row(pack.Number(0, 8))
	odd, _ := pack.Row(pack.Number(0, 8), pack.Number(0, 8), []byte{0, 1})
	parts := func(l ...[]byte) []byte {
		b, _ := pack.Row(l...)
		row, _ := pack.Row(pack.Number(0, 8), pack.Number(0, 8), b)
		return prefixed(row)
	}
	name, one := []byte("a"), pack.Number(1, 8)
	for what, area := range map[string][]byte{
		"a change of no texts":   parts(),
		"a change of two texts":  parts(name, one),
		"a change of four texts": parts(name, one, live("x"), nil),
		"a version of one byte":  parts(name, []byte{1}, live("x")),
		"three bytes":            {0, 0, 0},
		"a length alone":         {0, 0, 0, 1},
		"too long a record":      append(pack.Number(1<<32-1, 4), make([]byte, 60)...),
		"no list":                {0, 0, 0, 1, 9},
		"an empty list":          {0, 0, 0, 2, 0, 0},
		"a length of 0":          {0, 0, 0, 0},
		"a byte less":            good[:len(good)-1],
		"a byte more":            append(slices.Clone(good), 0),
		"seven bytes":            prefixed(short),
		"no index":               prefixed(alone),
		"no change":              prefixed(odd),
		"no name":                record(0, 0, version{"", 1, live("x")}),
		"a long name":            record(0, 0, long),
		"a long value":           record(0, 0, big),
		"no value":               record(0, 0, version{"a", 1, nil}),
		"an unknown value":       record(0, 0, version{"a", 1, []byte{2}}),
		"version 0":              record(0, 0, version{"a", 0, live("x")}),
		"version 2":              record(0, 0, version{"a", 2, live("x")}),
		"a huge version":         record(0, 0, version{"a", -1, live("x")}),
		"revoked at first":       record(0, 0, version{"a", 1, []byte{0}}),
		"a value when revoked":   append(slices.Clone(good), record(0, 1, version{"a", 2, []byte{0, 0}})...),
		"version 1 again":        append(slices.Clone(good), record(0, 1, a)...),
		"version 3":              append(slices.Clone(good), record(0, 1, version{"a", 3, live("z")})...),
		"behind a revocation":    slices.Concat(good, record(0, 1, gone), record(0, 2, version{"a", 3, live("z")})),
		"twice in an epoch":      record(0, 0, a, version{"a", 2, live("z")}),
		"seventeen changes":      record(0, 0, many...),
		"a wrong second record":  append(slices.Clone(good), 0, 0, 0, 1, 9),
		"a wrong version number": slices.Replace(slices.Clone(good), 42, 43, 7),
	} {
		d, f := fresh(t, 30)
		lay(t, d, length(len(area)), area)
		if x, e := directory.Open(config(2, 2), d, f); x != nil || e != api.ErrForm {
			t.Errorf("%s: %d", what, e)
		}
	}
	for _, text := range [][]byte{{1}, make([]byte, 7), make([]byte, 9), length(1<<62 + 1), length(-1), length(26*size + 1)} {
		d, f := fresh(t, 30)
		lay(t, d, text, empty(100))
		if x, e := directory.Open(config(2, 4), d, f); x != nil || e != api.ErrForm {
			t.Errorf("the text %v: %d", text, e)
		}
	}
	d, f := fresh(t, 30)
	lay(t, d, length(len(good)), append(slices.Clone(good), 9, 9, 9)) // what is behind does not matter
	if x := open(t, config(2, 2), d, f); x.Epoch() != 1 {
		t.Error("as described")
	}
	for _, text := range [][]byte{nil, length(0)} {
		d, f := fresh(t, 30)
		lay(t, d, text, good)
		if x := open(t, config(2, 2), d, f); x.Epoch() != 0 {
			t.Error("an area of 0 bytes")
		}
	}
}

func TestChangeArguments(t *testing.T) { // P21.2
	d, f := fresh(t, 8)
	x := open(t, config(1, 1), d, f)
	long := string(make([]byte, 65))
	for _, kind := range []int{0, -1, 4, math.MinInt, math.MaxInt} {
		change(t, x, kind, "a", "", api.ErrArg)
	}
	for _, kind := range []int{directory.Register, directory.Update, directory.Revoke} {
		change(t, x, kind, "", "", api.ErrArg)
		change(t, x, kind, long, "", api.ErrArg)
		change(t, x, kind, "a", long[:64], api.ErrArg)
	}
	change(t, x, directory.Revoke, "a", "x", api.ErrArg)
	if x.Change(directory.Register, nil, nil) != api.ErrArg {
		t.Error("nil")
	}
	if directory.Register != 1 || directory.Update != 2 || directory.Revoke != 3 {
		t.Error("the kinds")
	}
	change(t, x, directory.Register, long[:64], long[:63], api.OK)
	change(t, x, directory.Register, "b", "", api.OK)
}

func TestChange(t *testing.T) { // P21.2
	d, f := fresh(t, 20)
	x := open(t, config(2, 2), d, f)
	change(t, x, directory.Update, "a", "x", api.ErrNone)
	change(t, x, directory.Revoke, "a", "", api.ErrNone)
	change(t, x, directory.Register, "a", "x", api.OK)
	for kind := 1; kind <= 3; kind++ {
		change(t, x, kind, "a", "", api.ErrTwice) // it waits
	}
	publish(t, x)
	change(t, x, directory.Register, "a", "y", api.ErrTwice)
	change(t, x, directory.Update, "a", "y", api.OK)
	change(t, x, directory.Update, "a", "y", api.ErrTwice)
	change(t, x, directory.Register, "b", "y", api.OK)
	publish(t, x)
	change(t, x, directory.Revoke, "a", "", api.OK)
	change(t, x, directory.Update, "a", "z", api.ErrTwice)
	publish(t, x)
	change(t, x, directory.Register, "a", "y", api.ErrTwice)
	change(t, x, directory.Update, "a", "y", api.ErrState)
	change(t, x, directory.Revoke, "a", "", api.ErrState)
	change(t, x, directory.Update, "b", "", api.OK)
}

func TestMostChanges(t *testing.T) { // P21.2, R2
	d, f := fresh(t, 64)
	c := config(4, 1)
	x := open(t, c, d, f)
	for e := range 16 {
		for i := range 16 {
			change(t, x, directory.Register, strconv.Itoa(e*16+i), "", api.OK)
		}
		change(t, x, directory.Register, "more", "", api.ErrFull)
		change(t, x, directory.Register, strconv.Itoa(e*16), "", api.ErrTwice)
		change(t, x, directory.Update, "more", "", api.ErrNone)
		if e == 14 {
			x.Roll()
		}
		publish(t, x)
	}
	change(t, x, directory.Register, "more", "", api.ErrFull)
	change(t, x, directory.Update, "1", "", api.ErrFull)
	change(t, x, directory.Register, "1", "", api.ErrTwice)
	x = open(t, c, d, f)
	change(t, x, directory.Update, "1", "", api.ErrFull)
	if x.Epoch() != 16 {
		t.Error("Epoch")
	}
	publish(t, x) // an epoch without changes
}

func TestMostVersionsWaiting(t *testing.T) { // P21.2: those that wait are included
	d, f := fresh(t, 64)
	var b []byte
	n := 0
	for e := range 16 {
		var l []version
		for range min(16, 250-n) {
			l = append(l, version{strconv.Itoa(n), 1, live("")})
			n++
		}
		b = append(b, record(uint64(e/15), uint64(e%15), l...)...)
	}
	lay(t, d, pack.Number(uint64(len(b)), 8), b)
	x := open(t, config(1, 4), d, f)
	for i := range 6 {
		change(t, x, directory.Update, strconv.Itoa(i), "", api.OK)
	}
	change(t, x, directory.Update, "6", "", api.ErrFull)
}
