package pack_test

import (
	"bytes"
	"encoding/binary"
	"math"
	"slices"
	"testing"

	"planchet/api"
	"planchet/pack"
)

func TestNumber(t *testing.T) { // P3.1
	for _, c := range []struct {
		n    uint64
		size int
		want []byte
	}{
		{258, 4, []byte{0, 0, 1, 2}},
		{258, 2, []byte{1, 2}},
		{258, 1, []byte{2}},
		{258, 0, nil},
		{258, -1, nil},
		{258, math.MinInt, nil},
		{0, 3, []byte{0, 0, 0}},
		{0x0102030405060708, 8, []byte{1, 2, 3, 4, 5, 6, 7, 8}},
		{0x0102030405060708, 7, []byte{2, 3, 4, 5, 6, 7, 8}},
		{0x0102030405060708, 10, []byte{0, 0, 1, 2, 3, 4, 5, 6, 7, 8}},
		{math.MaxUint64, 9, []byte{0, 255, 255, 255, 255, 255, 255, 255, 255}},
		{1 << 63, 8, []byte{128, 0, 0, 0, 0, 0, 0, 0}},
	} {
		if got := pack.Number(c.n, c.size); !bytes.Equal(got, c.want) {
			t.Errorf("Number(%d, %d) = %v", c.n, c.size, got)
		}
	}
}

func TestNumberOfManyBytes(t *testing.T) { // P3.1
	for _, size := range []int{32, 63, 64, 65, 100, 1 << 40, math.MaxInt} {
		got := pack.Number(0x0a0b0c, size)
		n := min(size, 64)
		if len(got) != n || !bytes.Equal(got[n-3:], []byte{10, 11, 12}) || !bytes.Equal(got[:n-3], make([]byte, n-3)) {
			t.Errorf("size %d: %v", size, got)
		}
	}
}

func TestOf(t *testing.T) { // P3.1
	for n := range 9 {
		b := []byte{200, 1, 2, 3, 4, 5, 6, 255}[:n]
		var eight [8]byte
		copy(eight[8-n:], b)
		if got, e := pack.Of(b); e != api.OK || got != binary.BigEndian.Uint64(eight[:]) {
			t.Errorf("Of(%v) = %d, %d", b, got, e)
		}
	}
	if n, e := pack.Of(nil); n != 0 || e != api.OK {
		t.Error("no bytes")
	}
	for _, n := range []int{9, 10, 32, 64, 1000} {
		if got, e := pack.Of(make([]byte, n)); got != 0 || e != api.ErrArg {
			t.Errorf("%d bytes 0: %d, %d", n, got, e)
		}
		if got, e := pack.Of(bytes.Repeat([]byte{1}, n)); got != 0 || e != api.ErrArg {
			t.Errorf("%d bytes 1: %d, %d", n, got, e)
		}
	}
}

func TestNumbersThereAndBack(t *testing.T) { // P3.3
	for _, n := range []uint64{0, 1, 255, 256, 1<<32 - 1, 1 << 62, math.MaxUint64} {
		if got, e := pack.Of(pack.Number(n, 8)); got != n || e != api.OK {
			t.Errorf("%d: %d, %d", n, got, e)
		}
	}
	for size := range 9 {
		b := bytes.Repeat([]byte{7}, size)
		if n, _ := pack.Of(b); !bytes.Equal(pack.Number(n, size), b) {
			t.Errorf("%d bytes", size)
		}
	}
}

func TestRow(t *testing.T) { // P3.2
	for _, c := range []struct {
		l    [][]byte
		want []byte
	}{
		{nil, []byte{0, 0}},
		{[][]byte{[]byte("a")}, []byte{0, 1, 0, 1, 97}},
		{[][]byte{nil}, []byte{0, 1, 0, 0}},
		{[][]byte{{}, {1, 2}, nil, {3}}, []byte{0, 4, 0, 0, 0, 2, 1, 2, 0, 0, 0, 1, 3}},
		{[][]byte{make([]byte, 258)}, append([]byte{0, 1, 1, 2}, make([]byte, 258)...)},
	} {
		got, e := pack.Row(c.l...)
		if e != api.OK || !bytes.Equal(got, c.want) {
			t.Errorf("Row(%v) = %v, %d", c.l, got, e)
		}
	}
}

func TestRowLimits(t *testing.T) { // P3.2
	long := bytes.Repeat([]byte{9}, 65535)
	if b, e := pack.Row(nil, long); e != api.OK || !bytes.Equal(b, slices.Concat([]byte{0, 2, 0, 0, 255, 255}, long)) {
		t.Error("a text of 65535 bytes")
	}
	for _, l := range [][][]byte{
		{append(long, 1)},
		{nil, {1}, make([]byte, 65536)},
		{make([]byte, 1<<17), nil},
		make([][]byte, 65536),
		make([][]byte, 70000),
	} {
		if b, e := pack.Row(l...); e != api.ErrArg || b != nil {
			t.Errorf("too many, or too long: %d bytes, %d", len(b), e)
		}
	}
	b, e := pack.Row(make([][]byte, 65535)...)
	if e != api.OK || len(b) != 2+2*65535 || b[0] != 255 || b[1] != 255 || b[2] != 0 {
		t.Error("65535 texts")
	}
}

func TestSplit(t *testing.T) { // P3.2
	for _, l := range [][][]byte{
		nil, {nil}, {{1}}, {{}, {1, 2, 3}, {}, {4}}, {make([]byte, 65535), {5}}, make([][]byte, 65535),
	} {
		b, _ := pack.Row(l...)
		got, e := pack.Split(b)
		if e != api.OK || !slices.EqualFunc(got, l, bytes.Equal) {
			t.Errorf("a list of %d: %d, %d", len(l), len(got), e)
		}
	}
	for _, b := range [][]byte{
		nil, {0}, {1}, {0, 1}, {0, 0, 0}, {0, 0, 0, 0}, {0, 1, 0}, {0, 1, 0, 1}, {0, 1, 0, 1, 97, 0},
		{0, 1, 0, 2, 97}, {0, 1, 1, 0, 97}, {0, 2, 0, 1, 97}, {0, 2, 0, 1, 97, 0}, {1, 1, 0, 1, 97}, {255, 255},
	} {
		if l, e := pack.Split(b); e != api.ErrForm || l != nil {
			t.Errorf("Split(%v) = %v, %d", b, l, e)
		}
	}
}

func TestListsBackAndThere(t *testing.T) { // P3.3: all short texts over a few bytes
	for n := range 7 {
		var walk func(b []byte)
		walk = func(b []byte) {
			if len(b) < n {
				for x := range byte(4) {
					walk(append(slices.Clone(b), x))
				}
				return
			}
			l, e := pack.Split(b)
			if e != api.OK {
				return
			}
			if back, e := pack.Row(l...); e != api.OK || !bytes.Equal(back, b) {
				t.Errorf("%v: %v, %v", b, l, back)
			}
		}
		walk(nil)
	}
}

func TestMemory(t *testing.T) { // R3
	one, two := []byte{1, 2}, []byte{3}
	b, _ := pack.Row(one, two)
	l, _ := pack.Split(b)
	clear(one)
	l[0][0] = 9
	l[0] = append(l[0], 8, 8, 8)
	if !bytes.Equal(b, []byte{0, 2, 0, 2, 1, 2, 0, 1, 3}) || !bytes.Equal(l[1], []byte{3}) || two[0] != 3 {
		t.Error("memory is shared")
	}
}
