package keyed_test

import (
	"bytes"
	"crypto/sha256"
	"encoding/binary"
	"math"
	"slices"
	"testing"

	"planchet/api"
	"planchet/keyed"
)

func digest(n byte) api.Digest {
	var d api.Digest
	for i := range d {
		d[i] = n + byte(i)*3
	}
	return d
}

// sum returns the sum of a number in 32 bytes and the parts.
func sum(prefix uint64, parts ...[]byte) api.Digest {
	return api.Digest(sha256.Sum256(append(wide(prefix), slices.Concat(parts...)...)))
}

func wide(n uint64) []byte {
	return binary.BigEndian.AppendUint64(make([]byte, 24), n)
}

func TestF(t *testing.T) { // P5.1
	if keyed.F(api.Digest{}, api.Digest{}) != api.Digest(sha256.Sum256(make([]byte, 96))) {
		t.Error("F of zeros")
	}
	k, m := digest(1), digest(2)
	if keyed.F(k, m) != sum(0, k[:], m[:]) {
		t.Error("F")
	}
}

func TestH(t *testing.T) { // P5.1
	k, a, b := digest(1), digest(2), digest(3)
	if keyed.H(k, a, b) != sum(1, k[:], a[:], b[:]) {
		t.Error("H")
	}
	if keyed.H(k, b, a) != sum(1, k[:], b[:], a[:]) {
		t.Error("H, the other way round")
	}
}

func TestPrf(t *testing.T) { // P5.1
	k := digest(1)
	for _, n := range []int{0, 1, 31, 32, 33, 100, 5000} {
		m := bytes.Repeat([]byte{byte(n)}, n)
		if keyed.Prf(k, m) != sum(3, k[:], m) {
			t.Errorf("Prf of %d bytes", n)
		}
	}
	if keyed.Prf(k, nil) != sum(3, k[:]) {
		t.Error("Prf of nil")
	}
}

func TestAt(t *testing.T) { // P5.1
	k := digest(1)
	a := api.Adrs{1, 2, 3, 4, 5, 6, 7, 1 << 31}
	var b []byte
	for _, w := range a {
		b = binary.BigEndian.AppendUint32(b, w)
	}
	if keyed.At(k, a) != sum(3, k[:], b) || keyed.At(k, api.Adrs{}) != sum(3, k[:], make([]byte, 32)) {
		t.Error("At")
	}
}

func TestMessage(t *testing.T) { // P5.1
	r, root := digest(1), digest(2)
	text := []byte("a text of some bytes")
	for _, index := range []uint64{0, 1, 258, 1 << 40, math.MaxUint64} {
		want := sum(2, r[:], root[:], wide(index), text)
		if keyed.Message(r, root, index, text) != want {
			t.Errorf("index %d", index)
		}
		for i := range text {
			if keyed.Message(r, root, index, text[:i], nil, text[i:]) != want {
				t.Errorf("index %d, parts at %d", index, i)
			}
		}
	}
	if keyed.Message(r, root, 5) != sum(2, r[:], root[:], wide(5)) {
		t.Error("no parts")
	}
}

func TestMask(t *testing.T) { // P5.2, P5.3
	a, b := digest(1), digest(100)
	var want api.Digest
	for i := range want {
		want[i] = a[i] ^ b[i]
	}
	if keyed.Mask(a, b) != want || keyed.Mask(b, a) != want {
		t.Error("Mask")
	}
	if keyed.Mask(keyed.Mask(a, b), b) != a || keyed.Mask(a, a) != (api.Digest{}) || keyed.Mask(a, api.Digest{}) != a {
		t.Error("masked twice")
	}
	if a != digest(1) || b != digest(100) {
		t.Error("an argument was changed")
	}
}

func TestArgumentsAreLeftAlone(t *testing.T) { // R3
	text := []byte("a text")
	parts := make([][]byte, 1, 9)
	parts[0] = text
	keyed.Message(digest(1), digest(2), 3, parts...)
	keyed.Prf(digest(1), text)
	if string(text) != "a text" || len(parts[0]) != 6 || parts[:2][1] != nil {
		t.Error("an argument was changed")
	}
}
