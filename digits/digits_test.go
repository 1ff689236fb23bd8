package digits_test

import (
	"crypto/sha256"
	"math"
	"slices"
	"testing"

	"planchet/api"
	"planchet/digits"
)

func TestZeros(t *testing.T) { // P6.1
	want := [api.Chains]int{65: 12}
	want[64] = 3
	if got := digits.Of(api.Digest{}); got != want {
		t.Errorf("%v", got)
	}
}

func TestFull(t *testing.T) { // P6.1
	var d api.Digest
	var want [api.Chains]int
	for i := range d {
		d[i] = 255
		want[2*i], want[2*i+1] = 15, 15
	}
	if got := digits.Of(d); got != want {
		t.Errorf("%v", got)
	}
}

func TestOf(t *testing.T) { // P6.1
	for n := range 200 {
		d := api.Digest(sha256.Sum256([]byte{byte(n)}))
		got := digits.Of(d)
		sum := 0
		for i, x := range d {
			if got[2*i] != int(x>>4) || got[2*i+1] != int(x&15) {
				t.Fatalf("%x: %v", d, got)
			}
			sum += 30 - int(x>>4) - int(x&15)
		}
		if got[64] != sum>>8 || got[65] != sum>>4&15 || got[66] != sum&15 {
			t.Errorf("%x: the checksum %d is %v", d, sum, got[64:])
		}
	}
}

func TestLacks(t *testing.T) { // P6.1
	for _, c := range []struct {
		l    []int
		want int
	}{
		{nil, 0}, {[]int{}, 0}, {[]int{15}, 0}, {[]int{0}, 15}, {[]int{1, 2, 3}, 39}, {[]int{16}, -1},
		{[]int{100, 0}, -70}, {[]int{-5}, 20}, {make([]int, 64), 960}, {make([]int, 1000), 15000},
		{[]int{math.MinInt}, math.MinInt + 15}, {[]int{math.MaxInt}, math.MinInt + 16},
		{[]int{math.MinInt, math.MinInt}, 30},
	} {
		if got := digits.Lacks(c.l); got != c.want {
			t.Errorf("Lacks(%v) = %d", c.l, got)
		}
	}
	l := []int{1, 2}
	digits.Lacks(l)
	if !slices.Equal(l, []int{1, 2}) {
		t.Error("the argument was changed")
	}
}

func less(a, b [api.Chains]int) bool {
	for i := range a {
		if a[i] < b[i] {
			return true
		}
	}
	return false
}

func TestEachHasALesserDigit(t *testing.T) { // P6.2
	var l []api.Digest
	for n := range 60 {
		l = append(l, api.Digest(sha256.Sum256([]byte{byte(n)})))
	}
	for i := range 32 {
		for _, x := range []byte{1, 16, 128, 255} {
			var zeros, full api.Digest
			for j := range full {
				full[j] = 255
			}
			zeros[i] = x
			full[i] -= x
			l = append(l, zeros, full)
		}
	}
	for i, a := range l {
		for _, b := range l[:i] {
			if !less(digits.Of(a), digits.Of(b)) || !less(digits.Of(b), digits.Of(a)) {
				t.Errorf("%x and %x", a, b)
			}
		}
	}
}
