package disk_test

import (
	"bytes"
	"math"
	"testing"

	"planchet/api"
	"planchet/disk"
)

func fresh(t *testing.T, sectors, size int) *disk.Disk {
	t.Helper()
	d, e := disk.New(sectors, size)
	if e != api.OK || d == nil {
		t.Fatal("New", e)
	}
	return d
}

func write(t *testing.T, d *disk.Disk, i int, b ...byte) {
	t.Helper()
	if e := d.Write(i, b); e != api.OK {
		t.Fatal("Write", e)
	}
}

func reads(t *testing.T, d *disk.Disk, i int, want ...byte) {
	t.Helper()
	if got, e := d.Read(i); e != api.OK || !bytes.Equal(got, want) {
		t.Errorf("sector %d: %v, %d, not %v", i, got, e, want)
	}
}

func image(t *testing.T, d *disk.Disk, want ...byte) {
	t.Helper()
	if got := d.Image(); !bytes.Equal(got, want) {
		t.Errorf("the image is %v, not %v", got, want)
	}
}

// off checks that a disk is off.
func off(t *testing.T, d *disk.Disk) {
	t.Helper()
	b, e := d.Read(0)
	_, f := d.Read(-1)
	if b != nil || e != api.ErrGone || f != api.ErrGone || d.Sync() != api.ErrGone ||
		d.Write(0, make([]byte, d.Size())) != api.ErrGone || d.Write(-1, nil) != api.ErrGone {
		t.Error("the disk is not off")
	}
}

func TestNew(t *testing.T) { // P12.1
	for _, c := range [][2]int{{1, 1}, {64, 512}, {1, 512}, {64, 1}, {5, 18}} {
		d := fresh(t, c[0], c[1])
		if d.Sectors() != c[0] || d.Size() != c[1] || !bytes.Equal(d.Image(), make([]byte, c[0]*c[1])) {
			t.Errorf("%d sectors of %d bytes", c[0], c[1])
		}
		for i := range c[0] {
			reads(t, d, i, make([]byte, c[1])...)
		}
		if d.Sync() != api.OK {
			t.Error("a new disk is on")
		}
	}
	for _, c := range [][2]int{
		{0, 1}, {1, 0}, {65, 1}, {1, 513}, {-1, 5}, {5, -1}, {math.MaxInt, 1}, {1, math.MaxInt},
		{math.MinInt, math.MinInt}, {1 << 32, 1 << 32},
	} {
		if d, e := disk.New(c[0], c[1]); d != nil || e != api.ErrArg {
			t.Errorf("%d sectors of %d bytes: %d", c[0], c[1], e)
		}
	}
}

func TestWriteReadSync(t *testing.T) { // P12.2
	d := fresh(t, 3, 2)
	write(t, d, 0, 1, 2)
	write(t, d, 2, 3, 4)
	write(t, d, 0, 5, 6)
	reads(t, d, 0, 5, 6)
	reads(t, d, 1, 0, 0)
	reads(t, d, 2, 3, 4)
	image(t, d, 0, 0, 0, 0, 0, 0)
	if d.Sync() != api.OK {
		t.Error("Sync")
	}
	image(t, d, 5, 6, 0, 0, 3, 4)
	reads(t, d, 0, 5, 6)
	write(t, d, 1, 7, 8)
	reads(t, d, 1, 7, 8)
	image(t, d, 5, 6, 0, 0, 3, 4)
}

func TestWrongWritesAndReads(t *testing.T) { // P12.2
	d := fresh(t, 3, 2)
	d.Fail(0, []int{2})
	for _, i := range []int{-1, 3, math.MinInt, math.MaxInt} {
		if b, e := d.Read(i); b != nil || e != api.ErrArg {
			t.Errorf("Read(%d): %d", i, e)
		}
		if e := d.Write(i, []byte{1, 2}); e != api.ErrArg {
			t.Errorf("Write(%d): %d", i, e)
		}
	}
	for _, n := range []int{0, 1, 3, 6} {
		if e := d.Write(0, make([]byte, n)); e != api.ErrArg {
			t.Errorf("%d bytes: %d", n, e)
		}
	}
	if e := d.Write(0, nil); e != api.ErrArg {
		t.Error("nil")
	}
	reads(t, d, 0, 0, 0)
	if d.Write(0, []byte{1, 2}) != api.ErrGone { // the calls before did not count
		t.Error("the failure")
	}
}

func TestCrash(t *testing.T) { // P12.3, P12.5: what is kept of the writes that wait
	for _, c := range []struct{ keep, want []int }{
		{nil, []int{9, 9, 9, 9, 9, 9}},
		{[]int{}, []int{9, 9, 9, 9, 9, 9}},
		{[]int{1}, []int{1, 9, 9, 9, 9, 9}},
		{[]int{3}, []int{1, 2, 3, 9, 9, 9}},
		{[]int{100, 0, 2}, []int{7, 8, 3, 9, 9, 9}},
		{[]int{0, 1, 0}, []int{9, 9, 9, 4, 9, 9}},
		{[]int{-1, 2, math.MinInt}, []int{9, 9, 9, 4, 5, 9}},
		{[]int{math.MaxInt, math.MaxInt, math.MaxInt, math.MaxInt}, []int{7, 8, 9, 4, 5, 6}},
		{[]int{3, 3, 1}, []int{7, 2, 3, 4, 5, 6}},
		{[]int{0, 0, 0, 3}, []int{9, 9, 9, 9, 9, 9}},
	} {
		d := fresh(t, 2, 3)
		write(t, d, 0, 9, 9, 9)
		write(t, d, 1, 9, 9, 9)
		d.Sync()
		write(t, d, 0, 1, 2, 3)
		write(t, d, 1, 4, 5, 6)
		write(t, d, 0, 7, 8, 9)
		d.Crash(c.keep)
		off(t, d)
		var want []byte
		for _, x := range c.want {
			want = append(want, byte(x))
		}
		image(t, d, want...)
		d.Boot()
		image(t, d, want...)
		reads(t, d, 0, want[:3]...)
		reads(t, d, 1, want[3:]...)
		d.Sync() // no write waits any more
		image(t, d, want...)
	}
}

func TestCrashWhenOff(t *testing.T) { // P12.3
	d := fresh(t, 1, 2)
	write(t, d, 0, 1, 2)
	d.Crash([]int{1})
	d.Crash([]int{2, 2})
	image(t, d, 1, 0)
	if d.Sectors() != 1 || d.Size() != 2 {
		t.Error("the sizes of a disk that is off")
	}
	off(t, d)
}

func TestFail(t *testing.T) { // P12.3: after each number of writes and syncs
	for after := range 7 {
		d := fresh(t, 2, 1)
		d.Fail(after, []int{1, 1, 1})
		steps := []func() api.Errno{
			func() api.Errno { return d.Write(0, []byte{1}) },
			func() api.Errno { return d.Write(1, []byte{2}) },
			d.Sync,
			func() api.Errno { return d.Write(0, []byte{3}) },
			d.Sync,
			d.Sync,
		}
		for i, step := range steps {
			want := api.OK
			if i >= after {
				want = api.ErrGone
			}
			d.Read(0) // does not count
			if e := step(); e != want {
				t.Errorf("after %d: step %d: %d", after, i, e)
			}
		}
		// A write at which the failure occurs waits, and is kept; a sync is not done, but the list keeps all.
		want := [][]byte{{1, 0}, {1, 2}, {1, 2}, {3, 2}, {3, 2}, {3, 2}, {3, 2}}[after]
		image(t, d, want...)
		if after < 6 {
			off(t, d)
		}
	}
}

func TestFailKeepsAsTheListSays(t *testing.T) { // P12.2, P12.3
	d := fresh(t, 2, 2)
	d.Fail(1, []int{0, 1})
	write(t, d, 0, 1, 2)
	if d.Write(1, []byte{3, 4}) != api.ErrGone {
		t.Error("the failure")
	}
	image(t, d, 0, 0, 3, 0)
	d.Boot()
	d.Fail(1, nil)
	write(t, d, 0, 5, 6)
	if d.Sync() != api.ErrGone {
		t.Error("the failure at a sync")
	}
	image(t, d, 0, 0, 3, 0)
}

func TestSetAgain(t *testing.T) { // P12.3
	d := fresh(t, 1, 1)
	keep := []int{1}
	d.Fail(2, keep)
	keep[0] = 0 // R3
	write(t, d, 0, 1)
	d.Fail(1, keep)
	write(t, d, 0, 2)
	d.Fail(0, []int{0, 0, 1})
	if d.Write(0, []byte{3}) != api.ErrGone {
		t.Error("set again")
	}
	image(t, d, 3)
	d.Boot()
	for _, never := range []int{-1, math.MinInt} {
		d.Fail(0, nil)
		d.Fail(never, []int{1})
		write(t, d, 0, 4)
		if d.Sync() != api.OK {
			t.Error("no failure is set any more")
		}
	}
	d.Fail(math.MaxInt, nil)
	write(t, d, 0, 5)
	d.Fail(1, keep)
	d.Crash([]int{1})
	image(t, d, 5)
	d.Boot()
	write(t, d, 0, 6)
	if d.Sync() != api.OK || d.Sync() != api.OK {
		t.Error("Boot: no failure is set")
	}
	d.Fail(0, nil)
	d.Boot()
	write(t, d, 0, 7)
}

func TestFailKeepsItsOwnList(t *testing.T) { // R3
	d := fresh(t, 1, 1)
	keep := []int{1}
	d.Fail(0, keep)
	keep[0] = 0
	d.Write(0, []byte{9})
	image(t, d, 9)
}

func TestBootOfADiskThatIsOn(t *testing.T) { // P12.3: the writes still wait
	d := fresh(t, 1, 1)
	write(t, d, 0, 1)
	d.Boot()
	reads(t, d, 0, 1)
	image(t, d, 0)
	d.Sync()
	image(t, d, 1)
}

func TestRestore(t *testing.T) { // P12.3
	d := fresh(t, 2, 2)
	write(t, d, 0, 1, 2)
	for _, n := range []int{0, 3, 5, 100} {
		if d.Restore(make([]byte, n)) != api.ErrArg {
			t.Errorf("%d bytes", n)
		}
	}
	reads(t, d, 0, 1, 2) // what is refused changes nothing
	d.Fail(1, []int{2, 1})
	if d.Restore([]byte{5, 6, 7, 8}) != api.OK {
		t.Error("Restore")
	}
	reads(t, d, 0, 5, 6)
	reads(t, d, 1, 7, 8)
	image(t, d, 5, 6, 7, 8)
	write(t, d, 0, 3, 4) // the failure is still set
	if d.Sync() != api.ErrGone {
		t.Error("the failure does not change")
	}
	image(t, d, 3, 4, 7, 8)
	if d.Restore([]byte{1, 1, 1, 1}) != api.OK {
		t.Error("Restore of a disk that is off")
	}
	off(t, d)
	image(t, d, 1, 1, 1, 1)
	d.Boot()
	reads(t, d, 1, 1, 1)
}

func TestNil(t *testing.T) { // P12.4
	var d *disk.Disk
	for range 2 {
		if d.Sectors() != 0 || d.Size() != 0 || d.Image() != nil || d.Restore(nil) != api.ErrGone || d.Restore([]byte{1}) != api.ErrGone {
			t.Error("a nil disk")
		}
		off(t, d)
		d.Fail(0, []int{1})
		d.Crash([]int{1})
		d.Boot()
	}
}

func TestSyncedStays(t *testing.T) { // P12.5
	for after := range 5 {
		for keep := range 4 {
			d := fresh(t, 2, 3)
			write(t, d, 0, 1, 2, 3)
			d.Sync()
			d.Fail(after, []int{keep, keep, keep})
			for _, x := range []byte{10, 20} {
				d.Write(1, []byte{x, x + 1, x + 2})
				d.Sync()
			}
			d.Crash(nil)
			d.Boot()
			reads(t, d, 0, 1, 2, 3)
			old := [][]byte{{0, 0, 0}, {0, 0, 0}, {10, 11, 12}, {10, 11, 12}, {20, 21, 22}}[after]
			new := [][]byte{{10, 11, 12}, {10, 11, 12}, {20, 21, 22}, {20, 21, 22}, {20, 21, 22}}[after]
			reads(t, d, 1, append(append([]byte{}, new[:keep]...), old[keep:]...)...)
		}
	}
}

func TestMemory(t *testing.T) { // R3
	d := fresh(t, 1, 2)
	b := []byte{1, 2}
	write(t, d, 0, b...)
	d.Write(0, b)
	b[0] = 9
	reads(t, d, 0, 1, 2)
	got, _ := d.Read(0)
	got[0] = 9
	reads(t, d, 0, 1, 2)
	d.Sync()
	got, _ = d.Read(0)
	got[0] = 9
	d.Image()[1] = 9
	image(t, d, 1, 2)
	all := []byte{3, 4}
	d.Restore(all)
	all[0] = 9
	image(t, d, 3, 4)
}
