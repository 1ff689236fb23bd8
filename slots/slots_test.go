package slots_test

import (
	"bytes"
	"encoding/binary"
	"math"
	"slices"
	"testing"

	"planchet/api"
	"planchet/disk"
	"planchet/slots"
)

func fresh(t *testing.T, sectors, size int) *disk.Disk {
	t.Helper()
	d, e := disk.New(sectors, size)
	if e != api.OK {
		t.Fatal("disk.New", e)
	}
	return d
}

func open(t *testing.T, d *disk.Disk, at int) *slots.Slots {
	t.Helper()
	s, e := slots.Open(d, at)
	if e != api.OK || s == nil {
		t.Fatal("Open", e)
	}
	return s
}

func holds(t *testing.T, s *slots.Slots, turn int, text string) {
	t.Helper()
	if s.Turn() != turn || string(s.Text()) != text {
		t.Errorf("turn %d, text %q; not %d, %q", s.Turn(), s.Text(), turn, text)
	}
}

// slot returns the bytes of a slot.
func slot(size int, turn, length uint64, text string, again uint64) []byte {
	b := binary.BigEndian.AppendUint64(nil, turn)
	b = binary.BigEndian.AppendUint16(b, uint16(length))
	b = append(b, text...)
	b = append(b, make([]byte, size-18-len(text))...)
	return binary.BigEndian.AppendUint64(b, again)
}

func plain(turn uint64, text string) []byte {
	return slot(30, turn, uint64(len(text)), text, turn)
}

func put(t *testing.T, d *disk.Disk, i int, b []byte) {
	t.Helper()
	if d.Write(i, b) != api.OK || d.Sync() != api.OK {
		t.Fatal("the disk")
	}
}

func TestOpenErrors(t *testing.T) { // P13.1
	if s, e := slots.Open(nil, 0); s != nil || e != api.ErrGone {
		t.Error("nil")
	}
	off := fresh(t, 1, 1)
	off.Crash(nil)
	for _, at := range []int{0, -1, 5, math.MaxInt} {
		if s, e := slots.Open(off, at); s != nil || e != api.ErrGone {
			t.Errorf("off, at %d: %d", at, e)
		}
		if s, e := slots.Open(nil, at); s != nil || e != api.ErrGone {
			t.Errorf("nil, at %d: %d", at, e)
		}
	}
	for _, c := range []struct{ sectors, size, at int }{
		{2, 17, 0}, {2, 1, 0}, {1, 18, 0}, {2, 18, 1}, {2, 18, 2}, {2, 18, -1}, {5, 18, 4}, {5, 18, math.MaxInt},
		{5, 18, math.MinInt}, {5, 18, math.MaxInt - 1},
	} {
		if s, e := slots.Open(fresh(t, c.sectors, c.size), c.at); s != nil || e != api.ErrArg {
			t.Errorf("%v: %d", c, e)
		}
	}
	open(t, fresh(t, 2, 18), 0)
	open(t, fresh(t, 64, 18), 62)
}

func TestNew(t *testing.T) { // P13.1: example 1
	for _, size := range []int{18, 19, 100, 512} {
		d := fresh(t, 3, size)
		s := open(t, d, 1)
		holds(t, s, 0, "")
		if s.Room() != size-18 || !bytes.Equal(d.Image(), make([]byte, 3*size)) {
			t.Errorf("size %d: room %d", size, s.Room())
		}
	}
}

func TestWhichSlotCounts(t *testing.T) { // P13.1
	zeros := make([]byte, 30)
	const top = 1 << 62
	for _, c := range []struct {
		first, second []byte
		turn          int
		text          string
	}{
		{zeros, zeros, 0, ""},
		{plain(2, "two"), plain(1, "one"), 2, "two"},
		{plain(2, "two"), plain(3, "three"), 3, "three"},
		{plain(2, "two"), zeros, 2, "two"},
		{zeros, plain(1, "one"), 1, "one"},
		{plain(5, "first"), plain(5, "second"), 5, "first"},
		{plain(3, "odd"), plain(2, "even"), 3, "odd"},
		{plain(256, "more"), plain(255, "less"), 256, "more"},
		{plain(top, "top"), plain(1, "one"), top, "top"},
		{plain(top+1, "over"), plain(1, "one"), 1, "one"},
		{plain(1<<63, "over"), plain(math.MaxUint64, "over"), 0, ""},
		{plain(0, "zero"), zeros, 0, ""},
		{plain(4, ""), plain(3, "three"), 4, ""},
		{plain(4, "twelve bytes"), plain(3, ""), 4, "twelve bytes"},
		{slot(30, 4, 3, "abc", 5), plain(1, "one"), 1, "one"},
		{slot(30, 4, 3, "abc", 0), plain(1, "one"), 1, "one"},
		{slot(30, 0, 3, "abc", 4), plain(1, "one"), 1, "one"},
		{slot(30, 4, 13, "abc", 4), plain(1, "one"), 1, "one"},
		{slot(30, 4, 65535, "abc", 4), plain(1, "one"), 1, "one"},
		{slot(30, 4, 12, "abc", 4), plain(1, "one"), 4, "abc" + string(make([]byte, 9))},
		{slot(30, 4, 2, "abc", 4), plain(1, "one"), 4, "ab"}, // bytes behind the text
	} {
		d := fresh(t, 4, 30)
		put(t, d, 1, c.first)
		put(t, d, 2, c.second)
		holds(t, open(t, d, 1), c.turn, c.text)
	}
}

func TestWritesThatWaitAreRead(t *testing.T) { // P13.1
	d := fresh(t, 2, 30)
	d.Write(1, plain(7, "waits"))
	holds(t, open(t, d, 0), 7, "waits")
}

func TestReplace(t *testing.T) { // P13.2
	d := fresh(t, 5, 30)
	s := open(t, d, 2)
	texts := []string{"one", "", "twelve bytes", "four", "five", "six"}
	want := make([]byte, 5*30)
	for i, text := range texts {
		if e := s.Replace([]byte(text)); e != api.OK {
			t.Fatal("Replace", e)
		}
		turn := i + 1
		holds(t, s, turn, text)
		copy(want[30*(2+turn%2):], plain(uint64(turn), text))
		if !bytes.Equal(d.Image(), want) {
			t.Errorf("turn %d: the disk", turn)
		}
		holds(t, open(t, d, 2), turn, text)
	}
}

func TestReplaceFromAnyTurn(t *testing.T) { // P13.2: the parity tells the slot, also behind 2^62
	for _, turn := range []int{7, 8, 255, 256, 1<<62 - 1, 1 << 62} {
		for place := range 2 {
			d := fresh(t, 2, 30)
			put(t, d, place, plain(uint64(turn), "old"))
			s := open(t, d, 0)
			next := turn
			for range 3 {
				next++
				if s.Replace([]byte("new")) != api.OK {
					t.Error("Replace")
				}
				holds(t, s, next, "new")
				at := next % 2 * 30
				if !bytes.Equal(d.Image()[at:at+30], plain(uint64(next), "new")) {
					t.Errorf("turn %d: the slot", next)
				}
			}
		}
	}
	d := fresh(t, 2, 30)
	put(t, d, 1, plain(1<<62, "old"))
	s := open(t, d, 0)
	s.Replace([]byte("one"))
	s.Replace([]byte("two"))
	holds(t, s, 1<<62+2, "two")
	holds(t, open(t, d, 0), 0, "")
}

func TestTooLong(t *testing.T) { // P13.2
	d := fresh(t, 2, 30)
	s := open(t, d, 0)
	s.Replace([]byte("old"))
	before := d.Image()
	for _, n := range []int{13, 14, 30, 1000} {
		if e := s.Replace(make([]byte, n)); e != api.ErrArg {
			t.Errorf("%d bytes: %d", n, e)
		}
	}
	holds(t, s, 1, "old")
	if !bytes.Equal(d.Image(), before) {
		t.Error("the disk has changed")
	}
	if s.Replace([]byte("twelve bytes")) != api.OK { // it has not stopped
		t.Error("as many as there is room for")
	}
	none := open(t, fresh(t, 2, 18), 0)
	if none.Replace([]byte{1}) != api.ErrArg || none.Replace(nil) != api.OK || none.Turn() != 1 {
		t.Error("no room")
	}
}

func TestStopped(t *testing.T) { // P13.2
	for after := range 2 {
		d := fresh(t, 2, 30)
		s := open(t, d, 0)
		s.Replace([]byte("old"))
		d.Fail(after, []int{30})
		if e := s.Replace([]byte("new")); e != api.ErrGone {
			t.Errorf("after %d: %d", after, e)
		}
		holds(t, s, 1, "old")
		d.Boot()
		before := d.Image()
		if s.Replace([]byte("newer")) != api.ErrGone || s.Replace(nil) != api.ErrGone || s.Replace(make([]byte, 13)) != api.ErrArg {
			t.Error("it has stopped")
		}
		holds(t, s, 1, "old")
		if s.Room() != 12 || !bytes.Equal(before, d.Image()) {
			t.Error("the disk has changed")
		}
	}
	d := fresh(t, 2, 30)
	s := open(t, d, 0)
	d.Crash(nil)
	if s.Replace([]byte("new")) != api.ErrGone {
		t.Error("the disk is off")
	}
	d.Boot()
	if s.Replace([]byte("new")) != api.ErrGone {
		t.Error("it has stopped")
	}
}

func TestNil(t *testing.T) { // P13.3
	var s *slots.Slots
	if s.Text() != nil || s.Turn() != 0 || s.Room() != 0 || s.Replace(nil) != api.ErrGone || s.Replace([]byte{1}) != api.ErrGone {
		t.Error("nil slots")
	}
}

func TestWhateverFails(t *testing.T) { // P13.4
	for old := range 4 {
		for after := range 3 {
			for keep := -1; keep <= 31; keep++ {
				d := fresh(t, 2, 30)
				s := open(t, d, 0)
				text := ""
				for i := range old {
					text = string(bytes.Repeat([]byte{byte(i + 1)}, 12))
					s.Replace([]byte(text))
				}
				d.Fail(after, []int{keep})
				e := s.Replace([]byte("new"))
				d.Crash(nil)
				d.Boot()
				got := string(open(t, d, 0).Text())
				if got != "new" && (got != text || e == api.OK) || (e == api.OK) != (after == 2) {
					t.Errorf("%d old ones, after %d, %d kept: %q, %d", old, after, keep, got, e)
				}
				if keep >= 30 && after < 2 && got != "new" {
					t.Errorf("all was kept: %q", got)
				}
			}
		}
	}
}

func TestMemory(t *testing.T) { // R3
	s := open(t, fresh(t, 2, 30), 0)
	b := []byte("text")
	s.Replace(b)
	clear(b)
	got := s.Text()
	clear(got)
	holds(t, s, 1, "text")
	if !slices.Equal(b, make([]byte, 4)) {
		t.Error("the argument was changed")
	}
}
