package signer_test

import (
	"bytes"
	"math"
	"strconv"
	"testing"

	"planchet/api"
	"planchet/disk"
	"planchet/fence"
	"planchet/pack"
	"planchet/signer"
	"planchet/slots"
)

const size = 318 // of the smallest sector in which there is room

func fresh(t *testing.T) (*disk.Disk, *fence.Fence) {
	t.Helper()
	d, e := disk.New(3, size)
	if e != api.OK {
		t.Fatal("disk.New", e)
	}
	return d, fence.New()
}

func open(t *testing.T, d *disk.Disk, f *fence.Fence, total, batch int) *signer.Signer {
	t.Helper()
	s, e := signer.Open(d, 1, f, total, batch)
	if e != api.OK || s == nil {
		t.Fatal("Open", e)
	}
	return s
}

// row returns the encoding of a state.
func row(t *testing.T, numbers [5]uint64, message []byte) []byte {
	t.Helper()
	var l [][]byte
	for _, n := range numbers {
		l = append(l, pack.Number(n, 8))
	}
	b, e := pack.Row(append(l, message)...)
	if e != api.OK {
		t.Fatal("pack.Row", e)
	}
	return b
}

// put stores a text in the slots of the signer.
func put(t *testing.T, d *disk.Disk, text []byte) {
	t.Helper()
	s, _ := slots.Open(d, 1)
	if s.Replace(text) != api.OK {
		t.Fatal("Replace")
	}
}

// kept checks the state on the disk.
func kept(t *testing.T, d *disk.Disk, numbers [5]uint64, message string) {
	t.Helper()
	other, _ := disk.New(3, size)
	other.Restore(d.Image())
	s, _ := slots.Open(other, 1)
	if want := row(t, numbers, []byte(message)); !bytes.Equal(s.Text(), want) {
		t.Errorf("the state is %v, not %v", s.Text(), want)
	}
}

func at(t *testing.T, s *signer.Signer, key, next int) {
	t.Helper()
	if s.Key() != key || s.Next() != next {
		t.Errorf("key %d, next %d; not %d, %d", s.Key(), s.Next(), key, next)
	}
}

func marks(t *testing.T, f *fence.Fence, gen, key, high int) {
	t.Helper()
	if got := f.Marks(); got != (fence.Marks{Gen: gen, Key: key, High: high}) {
		t.Errorf("the marks are %v, not %d, %d, %d", got, gen, key, high)
	}
}

// gets checks what a call of Deal or Roll returns.
func gets(t *testing.T, call func([]byte) (int, int, api.Errno), m string, key, index int, want api.Errno) {
	t.Helper()
	if k, i, e := call([]byte(m)); k != key || i != index || e != want {
		t.Errorf("%q: %d, %d, %d; not %d, %d, %d", m, k, i, e, key, index, want)
	}
}

func TestOpenErrors(t *testing.T) { // P15.1, R2
	d, f := fresh(t)
	small, _ := disk.New(2, size-1)
	off, _ := disk.New(3, size)
	off.Crash(nil)
	for i, c := range []struct {
		d            *disk.Disk
		at           int
		f            *fence.Fence
		total, batch int
		want         api.Errno
	}{
		{d, 1, nil, 4, 2, api.ErrArg}, {nil, 1, nil, 4, 2, api.ErrArg},
		{d, 1, f, 1, 2, api.ErrArg}, {d, 1, f, 0, 2, api.ErrArg}, {d, 1, f, -1, 2, api.ErrArg}, {d, 1, f, 65537, 2, api.ErrArg},
		{d, 1, f, 4, 0, api.ErrArg}, {d, 1, f, 4, -1, api.ErrArg}, {d, 1, f, 4, 17, api.ErrArg}, {off, 1, f, 4, 17, api.ErrArg},
		{nil, 1, f, 4, 2, api.ErrGone}, {off, 1, f, 4, 2, api.ErrGone}, {off, 9, f, 4, 2, api.ErrGone},
		{d, 2, f, 4, 2, api.ErrArg}, {d, -1, f, 4, 2, api.ErrArg}, {d, math.MaxInt, f, 4, 2, api.ErrArg},
		{small, 0, f, 4, 2, api.ErrArg},
	} {
		if s, e := signer.Open(c.d, c.at, c.f, c.total, c.batch); s != nil || e != c.want {
			t.Errorf("case %d: %d", i, e)
		}
	}
	marks(t, f, 0, 0, 0)
	if !bytes.Equal(d.Image(), make([]byte, 3*size)) {
		t.Error("the disk has changed")
	}
	for _, c := range [][2]int{{2, 1}, {65536, 16}} {
		d, f := fresh(t)
		open(t, d, f, c[0], c[1])
	}
}

func TestWhatIsNoState(t *testing.T) { // P15.1
	const top = 1 << 62
	number := func(n int) []byte { return make([]byte, n) }
	list := func(l ...[]byte) []byte {
		b, _ := pack.Row(l...)
		return b
	}
	eight := number(8)
	for i, text := range [][]byte{
		nil, {1}, list(),
		list(eight, eight, eight, eight, eight),
		list(eight, eight, eight, eight, eight, nil, nil),
		list(nil, eight, eight, eight, eight, nil),
		list(number(7), eight, eight, eight, eight, nil),
		list(eight, eight, eight, eight, number(9), nil),
		list(eight, eight, eight, eight, number(7), nil),
		list(eight, eight, eight, eight, eight, number(201)),
		append(list(eight, eight, eight, eight, eight, nil), 0),
		row(t, [5]uint64{top + 1}, nil), row(t, [5]uint64{0, top + 1}, nil), row(t, [5]uint64{0, 0, top + 1}, nil),
		row(t, [5]uint64{0, 0, 0, top + 1}, nil), row(t, [5]uint64{0, 0, 0, 0, top + 1}, nil),
		row(t, [5]uint64{math.MaxUint64}, nil),
	} {
		d, f := fresh(t)
		put(t, d, text)
		before := d.Image()
		if s, e := signer.Open(d, 1, f, 4, 2); s != nil || e != api.ErrForm {
			t.Errorf("case %d: %d", i, e)
		}
		marks(t, f, 0, 0, 0)
		if !bytes.Equal(before, d.Image()) {
			t.Error("the disk has changed")
		}
	}
	d, f := fresh(t)
	put(t, d, row(t, [5]uint64{top, top, top, top, top}, make([]byte, 200)))
	s := open(t, d, f, 4, 2)
	at(t, s, top, top)
	gets(t, s.Deal, string(make([]byte, 200)), top, top, api.OK)
	gets(t, s.Deal, "other", 0, 0, api.ErrSpent)
	gets(t, s.Roll, "other", 0, 0, api.ErrSpent)
}

func TestOpenNew(t *testing.T) { // P15.1
	d, f := fresh(t)
	at(t, open(t, d, f, 4, 2), 0, 0)
	marks(t, f, 1, 0, 0)
	kept(t, d, [5]uint64{1}, "")
	at(t, open(t, d, f, 4, 2), 0, 0)
	marks(t, f, 2, 0, 0)
	kept(t, d, [5]uint64{2}, "")
	if !bytes.Equal(d.Image()[:size], make([]byte, size)) {
		t.Error("a sector that is not the signer's")
	}
}

func TestOpenStateAndFence(t *testing.T) { // P15.1: which of the two tells the key number and the next index
	for _, c := range []struct {
		state [3]uint64
		fence fence.Marks
		want  [3]int
	}{
		{[3]uint64{5, 1, 3}, fence.Marks{Gen: 2, Key: 0, High: 9}, [3]int{6, 1, 3}},
		{[3]uint64{5, 1, 3}, fence.Marks{Gen: 7, Key: 2, High: 1}, [3]int{8, 2, 1}},
		{[3]uint64{5, 1, 3}, fence.Marks{Gen: 5, Key: 1, High: 9}, [3]int{6, 1, 9}},
		{[3]uint64{5, 1, 3}, fence.Marks{Gen: 5, Key: 1, High: 2}, [3]int{6, 1, 3}},
		{[3]uint64{0, 0, 0}, fence.Marks{Gen: 9, Key: 0, High: 0}, [3]int{10, 0, 0}},
		{[3]uint64{0, 9, 100000}, fence.Marks{}, [3]int{1, 9, 100000}},
		{[3]uint64{0, 0, 100000}, fence.Marks{Gen: 0, Key: 7, High: 0}, [3]int{1, 7, 0}},
		{[3]uint64{1, 1, 1}, fence.Marks{Gen: 1, Key: 1 << 61, High: 1 << 61}, [3]int{2, 1 << 61, 1 << 61}},
	} {
		d, f := fresh(t)
		put(t, d, row(t, [5]uint64{c.state[0], c.state[1], c.state[2], 6, 7}, []byte("m")))
		f.Raise(c.fence)
		s := open(t, d, f, 4, 2)
		at(t, s, c.want[1], c.want[2])
		kept(t, d, [5]uint64{uint64(c.want[0]), uint64(c.want[1]), uint64(c.want[2]), 6, 7}, "m")
		marks(t, f, c.want[0], c.want[1], c.want[2])
		gets(t, s.Deal, "m", 6, 7, api.OK)
		gets(t, s.Roll, "m", 6, 7, api.OK)
		at(t, s, c.want[1], c.want[2])
	}
}

func TestOpenWithAFenceAlone(t *testing.T) { // P15.1: no slot counts
	d, f := fresh(t)
	f.Raise(fence.Marks{Gen: 3, Key: 2, High: 1})
	at(t, open(t, d, f, 4, 2), 2, 1)
	kept(t, d, [5]uint64{4, 2, 1}, "")
	marks(t, f, 4, 2, 1)
}

func TestOpenOfATopFence(t *testing.T) { // P15.1, R1
	d, f := fresh(t)
	f.Raise(fence.Marks{Gen: math.MaxInt, Key: math.MaxInt, High: math.MaxInt})
	s := open(t, d, f, 4, 2)
	at(t, s, math.MaxInt, math.MaxInt)
	gets(t, s.Deal, "m", 0, 0, api.ErrSpent)
	gets(t, s.Roll, "m", 0, 0, api.ErrSpent)
}

func TestOpenThatFails(t *testing.T) { // P15.1
	for after := range 2 {
		d, f := fresh(t)
		put(t, d, row(t, [5]uint64{1, 1, 1}, nil))
		d.Fail(after, []int{5})
		if s, e := signer.Open(d, 1, f, 4, 2); s != nil || e != api.ErrGone {
			t.Errorf("after %d: %d", after, e)
		}
		marks(t, f, 2, 1, 1) // it was raised before
		d.Boot()
		at(t, open(t, d, f, 4, 2), 1, 1)
		marks(t, f, 3, 1, 1)
	}
}

func TestExample(t *testing.T) { // P15.2, P15.6: example 1
	d, f := fresh(t)
	s := open(t, d, f, 2, 1)
	gets(t, s.Deal, "one", 0, 0, api.OK)
	at(t, s, 0, 1)
	gets(t, s.Deal, "two", 0, 0, api.ErrSpent)
	gets(t, s.Roll, "over", 0, 1, api.OK)
	at(t, s, 1, 0)
	gets(t, s.Deal, "two", 1, 0, api.OK)
	at(t, s, 1, 1)
}

func TestDeal(t *testing.T) { // P15.2: what is reserved, and what is kept, before an index is returned
	d, f := fresh(t)
	s := open(t, d, f, 6, 3)
	for i, reserved := range []int{3, 3, 3, 5, 5} { // not the last one
		m := "message " + strconv.Itoa(i)
		gets(t, s.Deal, m, 0, i, api.OK)
		at(t, s, 0, i+1)
		marks(t, f, 1, 0, reserved)
		kept(t, d, [5]uint64{1, 0, uint64(reserved), 0, uint64(i)}, m)
	}
	before := d.Image()
	gets(t, s.Deal, "message 4", 0, 4, api.OK) // the intent
	gets(t, s.Deal, "message 3", 0, 0, api.ErrSpent)
	at(t, s, 0, 5)
	marks(t, f, 1, 0, 5)
	if !bytes.Equal(before, d.Image()) {
		t.Error("the disk has changed")
	}
}

func TestIntent(t *testing.T) { // P15.2
	d, f := fresh(t)
	s := open(t, d, f, 6, 1)
	gets(t, s.Deal, "a", 0, 0, api.OK)
	before := d.Image()
	d.Fail(0, nil) // nothing is written
	gets(t, s.Deal, "a", 0, 0, api.OK)
	gets(t, s.Roll, "a", 0, 0, api.OK)
	at(t, s, 0, 1)
	marks(t, f, 1, 0, 1)
	if !bytes.Equal(before, d.Image()) {
		t.Error("the disk has changed")
	}
	d.Fail(-1, nil)
	gets(t, s.Deal, "ab", 0, 1, api.OK)
	gets(t, s.Deal, "a", 0, 2, api.OK) // it is not the last one any more
	s = open(t, d, f, 6, 1)
	gets(t, s.Deal, "a", 0, 2, api.OK) // also after it is opened again
	at(t, s, 0, 3)
}

func TestRoll(t *testing.T) { // P15.2
	d, f := fresh(t)
	s := open(t, d, f, 6, 3)
	gets(t, s.Roll, "first", 0, 0, api.OK)
	at(t, s, 1, 0)
	marks(t, f, 1, 1, 0)
	kept(t, d, [5]uint64{1, 1, 0, 0, 0}, "first")
	gets(t, s.Roll, "first", 0, 0, api.OK)
	gets(t, s.Deal, "first", 0, 0, api.OK)
	at(t, s, 1, 0)
	gets(t, s.Deal, "a", 1, 0, api.OK)
	gets(t, s.Deal, "b", 1, 1, api.OK)
	marks(t, f, 1, 1, 3)
	gets(t, s.Roll, "second", 1, 2, api.OK)
	at(t, s, 2, 0)
	marks(t, f, 1, 2, 0)
	kept(t, d, [5]uint64{1, 2, 0, 1, 2}, "second")
	gets(t, s.Deal, "c", 2, 0, api.OK) // nothing was reserved
	marks(t, f, 1, 2, 3)
	s = open(t, d, f, 6, 3)
	at(t, s, 2, 3)
	gets(t, s.Deal, "d", 2, 3, api.OK)
	marks(t, f, 2, 2, 5)
}

func TestRollBehindTheLast(t *testing.T) { // P15.2
	d, f := fresh(t)
	put(t, d, row(t, [5]uint64{1, 4, 5}, nil))
	s := open(t, d, f, 6, 3)
	gets(t, s.Deal, "a", 0, 0, api.ErrSpent)
	gets(t, s.Roll, "b", 4, 5, api.OK)
	d, f = fresh(t)
	put(t, d, row(t, [5]uint64{1, 4, 6}, nil))
	s = open(t, d, f, 6, 3)
	gets(t, s.Deal, "a", 0, 0, api.ErrSpent)
	gets(t, s.Roll, "b", 0, 0, api.ErrSpent)
	at(t, s, 4, 6)
}

func TestMessages(t *testing.T) { // P15.2
	d, f := fresh(t)
	s := open(t, d, f, 6, 3)
	before := d.Image()
	for _, n := range []int{0, 201, 1000} {
		gets(t, s.Deal, string(make([]byte, n)), 0, 0, api.ErrArg)
		gets(t, s.Roll, string(make([]byte, n)), 0, 0, api.ErrArg)
	}
	if k, i, e := s.Deal(nil); k != 0 || i != 0 || e != api.ErrArg || !bytes.Equal(before, d.Image()) {
		t.Error("nil")
	}
	gets(t, s.Deal, string(make([]byte, 200)), 0, 0, api.OK)
	gets(t, s.Deal, "x", 0, 1, api.OK)
	gets(t, s.Roll, string(make([]byte, 200)), 0, 2, api.OK)
	if signer.MaxMessage != 200 {
		t.Error("MaxMessage")
	}
}

func TestStopped(t *testing.T) { // P15.2
	for after := range 2 {
		for _, roll := range []bool{false, true} {
			d, f := fresh(t)
			s := open(t, d, f, 6, 3)
			gets(t, s.Deal, "a", 0, 0, api.OK)
			d.Fail(after, nil)
			call := s.Deal
			if roll {
				call = s.Roll
			}
			gets(t, call, "b", 0, 0, api.ErrGone)
			d.Boot()
			gets(t, s.Deal, "a", 0, 0, api.ErrGone) // the intent, too
			gets(t, s.Deal, "c", 0, 0, api.ErrGone)
			gets(t, s.Roll, "c", 0, 0, api.ErrGone)
			gets(t, s.Deal, "", 0, 0, api.ErrArg)
			gets(t, s.Roll, "", 0, 0, api.ErrArg)
			at(t, s, 0, 1)
			kept(t, d, [5]uint64{1, 0, 3}, "a")
			if roll {
				marks(t, f, 1, 1, 0)
				at(t, open(t, d, f, 6, 3), 1, 0)
			} else {
				at(t, open(t, d, f, 6, 3), 0, 3)
			}
		}
	}
}

func TestNil(t *testing.T) { // P15.3
	var s *signer.Signer
	at(t, s, 0, 0)
	gets(t, s.Deal, "a", 0, 0, api.ErrGone)
	gets(t, s.Roll, "a", 0, 0, api.ErrGone)
	gets(t, s.Deal, "", 0, 0, api.ErrArg)
	gets(t, s.Roll, string(make([]byte, 201)), 0, 0, api.ErrArg)
}

func TestOneByOne(t *testing.T) { // P15.6
	for _, total := range []int{2, 3, 8, 17} {
		for _, batch := range []int{1, 3, 16} {
			d, f := fresh(t)
			s := open(t, d, f, total, batch)
			for key := range 3 {
				for i := range total - 1 {
					gets(t, s.Deal, strconv.Itoa(key*1000+i), key, i, api.OK)
				}
				gets(t, s.Deal, "no more", 0, 0, api.ErrSpent)
				gets(t, s.Roll, "over "+strconv.Itoa(key), key, total-1, api.OK)
			}
		}
	}
}

func TestWhatAnOpeningLoses(t *testing.T) { // P15.5
	for _, batch := range []int{1, 2, 5, 16} {
		for dealt := range 12 {
			d, f := fresh(t)
			s := open(t, d, f, 65536, batch)
			for i := range dealt {
				gets(t, s.Deal, strconv.Itoa(i), 0, i, api.OK)
			}
			for range 3 {
				before := s.Next()
				d.Crash(nil)
				d.Boot()
				s = open(t, d, f, 65536, batch)
				if lost := s.Next() - before; lost < 0 || lost > batch {
					t.Errorf("batch %d, %d dealt: lost %d", batch, dealt, lost)
				}
			}
		}
	}
}

// TestNoIndexTwice runs many scripts of failures and restored images.
func TestNoIndexTwice(t *testing.T) { // P15.4
	for seed := range uint64(300) {
		d, f := fresh(t)
		s := open(t, d, f, 5, 2)
		images := [][]byte{d.Image()}
		used := map[[2]int]string{}
		x := seed + 1
		random := func(n int) int {
			x ^= x << 13
			x ^= x >> 7
			x ^= x << 17
			return int(x % uint64(n))
		}
		for range 60 {
			m := strconv.Itoa(random(4))
			switch random(9) {
			case 0:
				d.Fail(random(4), []int{random(size + 9), random(size + 9)})
			case 1, 2:
				d.Crash([]int{random(size + 9), random(size + 9)})
				if random(2) == 0 {
					d.Restore(images[random(len(images))])
				}
				d.Boot()
				s = open(t, d, f, 5, 2)
			case 3:
				images = append(images, d.Image())
			default:
				call := s.Deal
				if random(4) == 0 {
					call = s.Roll
				}
				k, i, e := call([]byte(m))
				if e != api.OK {
					continue
				}
				if old, ok := used[[2]int{k, i}]; ok && old != m {
					t.Fatalf("script %d: index %d of key %d got %q and %q", seed, i, k, old, m)
				}
				used[[2]int{k, i}] = m
			}
		}
	}
}

func TestMemory(t *testing.T) { // R3
	d, f := fresh(t)
	s := open(t, d, f, 6, 3)
	m := []byte("abc")
	s.Deal(m)
	m[0] = 'x'
	gets(t, s.Deal, "abc", 0, 0, api.OK)
	gets(t, s.Deal, "xbc", 0, 1, api.OK)
	m[0] = 'z'
	s.Roll(m)
	m[0] = 'y'
	gets(t, s.Deal, "zbc", 0, 2, api.OK)
	gets(t, s.Deal, "ybc", 1, 0, api.OK)
}
