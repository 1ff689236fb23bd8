package sha_test

import (
	"bytes"
	"crypto/sha256"
	"encoding/hex"
	"testing"

	"planchet/api"
	"planchet/sha"
)

// text returns n bytes that differ from place to place.
func text(n int) []byte {
	b := make([]byte, n)
	for i := range b {
		b[i] = byte(i*7 + i/251)
	}
	return b
}

func want(b []byte) api.Digest {
	return api.Digest(sha256.Sum256(b))
}

func TestKnownSums(t *testing.T) { // P1.1
	for s, sum := range map[string]string{
		"":    "e3b0c44298fc1c149afbf4c8996fb92427ae41e4649b934ca495991b7852b855",
		"abc": "ba7816bf8f01cfea414140de5dae2223b00361a396177a9cb410ff61f20015ad",
	} {
		d := sha.Sum([]byte(s))
		if got := hex.EncodeToString(d[:]); got != sum {
			t.Errorf("Sum(%q) = %s", s, got)
		}
	}
}

func TestSumOfAllSizes(t *testing.T) { // P1.1: all edges of the padding
	for n := range 300 {
		if sha.Sum(text(n)) != want(text(n)) {
			t.Errorf("%d bytes", n)
		}
	}
	for _, n := range []int{4095, 4096, 1<<16 - 9, 1<<16 - 8, 1 << 20} {
		if sha.Sum(text(n)) != want(text(n)) {
			t.Errorf("%d bytes", n)
		}
	}
}

func TestSizeInEightBytes(t *testing.T) { // P1.1: more than 2^32 bits
	if testing.Short() {
		t.Skip("long")
	}
	part := text(1 << 20)
	h, other := sha.New(), sha256.New()
	for range 513 {
		h.Write(part)
		other.Write(part)
	}
	if h.Sum() != api.Digest(other.Sum(nil)) {
		t.Error("sum of 513 MiB")
	}
}

func TestSumOfParts(t *testing.T) { // P1.1, P1.3
	if sha.Sum() != want(nil) || sha.Sum(nil) != want(nil) || sha.Sum(nil, []byte{}, nil) != want(nil) {
		t.Error("empty parts")
	}
	all := text(200)
	for i := range all {
		for _, j := range []int{i, (i + 200) / 2, 200} {
			if sha.Sum(all[:i], all[i:j], nil, all[j:]) != want(all) {
				t.Errorf("parts at %d and %d", i, j)
			}
		}
	}
}

func TestWrite(t *testing.T) { // P1.2, P1.3
	for _, step := range []int{1, 3, 55, 63, 64, 65, 127, 128, 129} {
		h := sha.New()
		if h.Sum() != want(nil) {
			t.Error("a new hash")
		}
		all := text(700)
		for i := 0; i < len(all); i += step {
			end := min(i+step, len(all))
			h.Write(all[i:end])
			h.Write(nil)
			if h.Sum() != want(all[:end]) || h.Sum() != want(all[:end]) {
				t.Errorf("steps of %d: after %d bytes", step, end)
			}
		}
	}
}

func TestHashesAreSeparate(t *testing.T) { // P1.2, R4
	a, b := sha.New(), sha.New()
	a.Write([]byte("one"))
	b.Write([]byte("two"))
	if a.Sum() != want([]byte("one")) || b.Sum() != want([]byte("two")) || sha.New().Sum() != want(nil) {
		t.Error("hashes share their state")
	}
}

func TestNilHash(t *testing.T) { // P1.2, R1
	var h *sha.Hash
	h.Write([]byte("abc"))
	h.Write(nil)
	if h.Sum() != want(nil) {
		t.Error("a nil hash")
	}
}

func TestArgumentsAreLeftAlone(t *testing.T) { // R3
	b := text(100)
	h := sha.New()
	h.Write(b)
	sha.Sum(b, b)
	if !bytes.Equal(b, text(100)) {
		t.Error("an argument was changed")
	}
	clear(b)
	if h.Sum() != want(text(100)) {
		t.Error("an argument was kept")
	}
}

func BenchmarkNode(b *testing.B) {
	x := text(65)
	for b.Loop() {
		sha.Sum(x)
	}
}
