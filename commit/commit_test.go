package commit_test

import (
	"bytes"
	"crypto/hmac"
	"crypto/sha256"
	"encoding/binary"
	"math"
	"testing"

	"planchet/api"
	"planchet/commit"
)

var key = api.Digest{1, 2, 3, 31: 4}

func text(n int) []byte {
	b := make([]byte, n)
	for i := range b {
		b[i] = byte(i + 65)
	}
	return b
}

func sum(parts ...[]byte) api.Digest {
	return api.Digest(sha256.Sum256(bytes.Join(parts, nil)))
}

func code(parts ...[]byte) api.Digest {
	h := hmac.New(sha256.New, key[:])
	h.Write(bytes.Join(parts, nil))
	return api.Digest(h.Sum(nil))
}

func eight(n int) []byte {
	return binary.BigEndian.AppendUint64(nil, uint64(n))
}

func TestIndex(t *testing.T) { // P16.1, P16.2, P16.3
	for _, n := range []int{1, 2, 31, 63, 64} {
		for _, version := range []int{1, 2, 258, 1 << 40, math.MaxInt} {
			name := text(n)
			nonce := code([]byte{1}, eight(version), name)
			want := sum([]byte{1}, nonce[:], eight(version), name)
			index, got, e := commit.Index(key, name, version)
			if index != want || got != nonce || e != api.OK {
				t.Errorf("Index: %d bytes, version %d: %d", n, version, e)
			}
			if from, e := commit.From(nonce, name, version); from != want || e != api.OK {
				t.Errorf("From: %d bytes, version %d: %d", n, version, e)
			}
			if !commit.IsIndex(want, nonce, name, version) {
				t.Errorf("IsIndex: %d bytes, version %d", n, version)
			}
		}
	}
	nonce := api.Digest{7}
	if from, e := commit.From(nonce, text(3), 4); from != sum([]byte{1}, nonce[:], eight(4), text(3)) || e != api.OK {
		t.Error("From with any nonce")
	}
}

func TestIndexErrors(t *testing.T) { // P16.1, P16.2
	for _, c := range []struct{ n, version int }{
		{0, 1}, {65, 1}, {1000, 1}, {1, 0}, {1, -1}, {1, math.MinInt}, {0, 0}, {65, -1},
	} {
		name := text(c.n)
		index, nonce, e := commit.Index(key, name, c.version)
		if index != (api.Digest{}) || nonce != (api.Digest{}) || e != api.ErrArg {
			t.Errorf("Index: %d bytes, version %d: %d", c.n, c.version, e)
		}
		nonce = api.Digest{7}
		if from, e := commit.From(nonce, name, c.version); from != (api.Digest{}) || e != api.ErrArg {
			t.Errorf("From: %d bytes, version %d: %d", c.n, c.version, e)
		}
		would := sum([]byte{1}, nonce[:], eight(c.version), name)
		if commit.IsIndex(would, nonce, name, c.version) || commit.IsIndex(api.Digest{}, nonce, name, c.version) {
			t.Errorf("IsIndex: %d bytes, version %d", c.n, c.version)
		}
	}
	if _, _, e := commit.Index(key, nil, 1); e != api.ErrArg {
		t.Error("no name")
	}
}

func TestIsIndexOfOthers(t *testing.T) { // P16.2
	index, nonce, _ := commit.Index(key, []byte("name"), 3)
	for i := range 32 {
		other := index
		other[i] ^= 1
		if commit.IsIndex(other, nonce, []byte("name"), 3) {
			t.Errorf("another index, at %d", i)
		}
		other = nonce
		other[i] ^= 128
		if commit.IsIndex(index, other, []byte("name"), 3) {
			t.Errorf("another nonce, at %d", i)
		}
	}
	if commit.IsIndex(index, nonce, []byte("nane"), 3) || commit.IsIndex(index, nonce, []byte("name"), 4) {
		t.Error("another name or version")
	}
	if !commit.IsIndex(index, nonce, []byte("name"), 3) {
		t.Error("the same")
	}
}

func TestValue(t *testing.T) { // P16.1, P16.2, P16.3
	index := api.Digest{9, 8, 7}
	for n := range 65 {
		value := text(n)
		salt := code([]byte{2}, index[:], value)
		want := sum([]byte{2}, salt[:], value)
		commitment, got, e := commit.Value(key, index, value)
		if commitment != want || got != salt || e != api.OK {
			t.Errorf("Value: %d bytes: %d", n, e)
		}
		if made, e := commit.Made(salt, value); made != want || e != api.OK {
			t.Errorf("Made: %d bytes: %d", n, e)
		}
		if !commit.IsValue(want, salt, value) {
			t.Errorf("IsValue: %d bytes", n)
		}
	}
	salt := api.Digest{7}
	if made, e := commit.Made(salt, nil); made != sum([]byte{2}, salt[:]) || e != api.OK {
		t.Error("no value")
	}
}

func TestValueErrors(t *testing.T) { // P16.1, P16.2
	for _, n := range []int{65, 66, 1000} {
		value := text(n)
		commitment, salt, e := commit.Value(key, api.Digest{}, value)
		if commitment != (api.Digest{}) || salt != (api.Digest{}) || e != api.ErrArg {
			t.Errorf("Value: %d bytes: %d", n, e)
		}
		salt = api.Digest{7}
		if made, e := commit.Made(salt, value); made != (api.Digest{}) || e != api.ErrArg {
			t.Errorf("Made: %d bytes: %d", n, e)
		}
		if commit.IsValue(sum([]byte{2}, salt[:], value), salt, value) || commit.IsValue(api.Digest{}, salt, value) {
			t.Errorf("IsValue: %d bytes", n)
		}
	}
}

func TestIsValueOfOthers(t *testing.T) { // P16.2
	commitment, salt, _ := commit.Value(key, api.Digest{}, []byte("value"))
	for i := range 32 {
		other := commitment
		other[i] ^= 1
		if commit.IsValue(other, salt, []byte("value")) {
			t.Errorf("another commitment, at %d", i)
		}
		other = salt
		other[i] ^= 128
		if commit.IsValue(commitment, other, []byte("value")) {
			t.Errorf("another salt, at %d", i)
		}
	}
	if commit.IsValue(commitment, salt, []byte("valua")) || commit.IsValue(commitment, salt, nil) {
		t.Error("another value")
	}
}

func TestArgumentsAreLeftAlone(t *testing.T) { // R3
	name := text(10)
	commit.Index(key, name, 1)
	commit.Value(key, key, name)
	if !bytes.Equal(name, text(10)) {
		t.Error("an argument was changed")
	}
}
