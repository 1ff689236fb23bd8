package adrs_test

import (
	"bytes"
	"math"
	"testing"

	"planchet/adrs"
	"planchet/api"
)

func TestTypes(t *testing.T) { // P4.1
	const top = math.MaxUint32
	for _, c := range []struct{ got, want api.Adrs }{
		{adrs.Ots(1, 1<<32+5, 7), api.Adrs{1, 1, 5, 0, 7, 0, 0, 0}},
		{adrs.Ots(0, 0, 0), api.Adrs{}},
		{adrs.Ots(top, math.MaxUint64, top), api.Adrs{top, top, top, 0, top}},
		{adrs.Ltree(1, 1<<32+5, 7), api.Adrs{1, 1, 5, 1, 7, 0, 0, 0}},
		{adrs.Ltree(2, 3<<32, 0), api.Adrs{2, 3, 0, 1}},
		{adrs.Ltree(top, math.MaxUint64, top), api.Adrs{top, top, top, 1, top}},
		{adrs.Tree(1, 1<<32+5), api.Adrs{1, 1, 5, 2}},
		{adrs.Tree(top, math.MaxUint64-1), api.Adrs{top, top, top - 1, 2}},
	} {
		if c.got != c.want {
			t.Errorf("%v, not %v", c.got, c.want)
		}
	}
}

func TestAtAndFor(t *testing.T) { // P4.1
	a := api.Adrs{1, 2, 3, 4, 5, 6, 7, 8}
	if got := adrs.At(a, 9, 10); got != (api.Adrs{1, 2, 3, 4, 5, 9, 10, 0}) {
		t.Errorf("At: %v", got)
	}
	if got := adrs.At(api.Adrs{}, math.MaxUint32, math.MaxUint32); got != (api.Adrs{5: math.MaxUint32, 6: math.MaxUint32}) {
		t.Errorf("At: %v", got)
	}
	if got := adrs.At(a, 0, 0); got != (api.Adrs{1, 2, 3, 4, 5}) {
		t.Errorf("At: %v", got)
	}
	for _, what := range []uint32{0, 1, 2, 3, math.MaxUint32} {
		if got := adrs.For(a, what); got != (api.Adrs{1, 2, 3, 4, 5, 6, 7, what}) {
			t.Errorf("For: %v", got)
		}
	}
	if a != (api.Adrs{1, 2, 3, 4, 5, 6, 7, 8}) {
		t.Error("the argument was changed")
	}
}

func TestBytes(t *testing.T) { // P4.2
	a := api.Adrs{0x01020304, 0, 5, 0xfffefdfc, 1 << 31, 256, 1, 0x00ff00ff}
	want := []byte{
		1, 2, 3, 4, 0, 0, 0, 0, 0, 0, 0, 5, 255, 254, 253, 252,
		128, 0, 0, 0, 0, 0, 1, 0, 0, 0, 0, 1, 0, 255, 0, 255,
	}
	if got := adrs.Bytes(a); !bytes.Equal(got, want) {
		t.Errorf("Bytes: %v", got)
	}
	if got, e := adrs.Parse(want); got != a || e != api.OK {
		t.Errorf("Parse: %v, %d", got, e)
	}
	if got := adrs.Bytes(api.Adrs{}); !bytes.Equal(got, make([]byte, 32)) {
		t.Errorf("Bytes of zeros: %v", got)
	}
	if got, e := adrs.Parse(make([]byte, 32)); got != (api.Adrs{}) || e != api.OK {
		t.Errorf("Parse of zeros: %v, %d", got, e)
	}
}

func TestParseWrongSizes(t *testing.T) { // P4.2
	for n := range 100 {
		b := bytes.Repeat([]byte{3}, n)
		a, e := adrs.Parse(b)
		if n == 32 {
			if e != api.OK || a[0] != 0x03030303 || a[7] != 0x03030303 {
				t.Errorf("32 bytes: %v, %d", a, e)
			}
		} else if e != api.ErrForm || a != (api.Adrs{}) {
			t.Errorf("%d bytes: %v, %d", n, a, e)
		}
	}
	if _, e := adrs.Parse(nil); e != api.ErrForm {
		t.Error("nil")
	}
}

func TestThereAndBack(t *testing.T) { // P4.3
	for word := range 8 {
		for bit := range 32 {
			a := adrs.Ots(1, 2, 3)
			a[word] ^= 1 << bit
			if got, e := adrs.Parse(adrs.Bytes(a)); got != a || e != api.OK {
				t.Errorf("%v: %v, %d", a, got, e)
			}
			b := adrs.Bytes(a)
			if got, _ := adrs.Parse(b); !bytes.Equal(adrs.Bytes(got), b) {
				t.Errorf("%v", b)
			}
		}
	}
}

func TestAllDiffer(t *testing.T) { // P4.3
	seen := map[api.Adrs]bool{}
	some := []uint32{0, 1, 2, 1 << 31}
	add := func(a api.Adrs) {
		if seen[a] {
			t.Errorf("twice: %v", a)
		}
		seen[a] = true
	}
	for _, layer := range some {
		for _, tree := range []uint64{0, 1, 2, 1 << 31, 1 << 32, 2 << 32, 1 << 63} {
			for _, five := range some {
				for _, six := range some {
					for _, what := range []uint32{0, 1, 2} {
						add(adrs.For(adrs.At(adrs.Tree(layer, tree), five, six), what))
						for _, leaf := range some {
							add(adrs.For(adrs.At(adrs.Ots(layer, tree, leaf), five, six), what))
							add(adrs.For(adrs.At(adrs.Ltree(layer, tree, leaf), five, six), what))
						}
					}
				}
			}
		}
	}
}

func TestMemory(t *testing.T) { // R3
	a := adrs.Ots(1, 2, 3)
	b := adrs.Bytes(a)
	got, _ := adrs.Parse(b)
	clear(b)
	if got != a || !bytes.Equal(adrs.Bytes(a)[28:], make([]byte, 4)) || adrs.Bytes(a)[3] != 1 {
		t.Error("memory is shared")
	}
}
