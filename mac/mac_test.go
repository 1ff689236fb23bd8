package mac_test

import (
	"bytes"
	"crypto/hmac"
	"crypto/sha256"
	"encoding/hex"
	"testing"

	"planchet/api"
	"planchet/mac"
	"planchet/sha"
)

func text(n int) []byte {
	b := make([]byte, n)
	for i := range b {
		b[i] = byte(i*5 + 1 + i/250)
	}
	return b
}

func want(key, b []byte) api.Digest {
	h := hmac.New(sha256.New, key)
	h.Write(b)
	return api.Digest(h.Sum(nil))
}

func TestKnownCodes(t *testing.T) { // P2.1: RFC 4231
	for _, c := range []struct {
		key, text []byte
		code      string
	}{
		{[]byte("Jefe"), []byte("what do ya want for nothing?"), "5bdcc146bf60754e6a042426089575c75a003f089d2739839dec58b964ec3843"},
		{bytes.Repeat([]byte{0x0b}, 20), []byte("Hi There"), "b0344c61d8db38535ca8afceaf0bf12b881dc200c9833da726e9376c2e32cff7"},
		{bytes.Repeat([]byte{0xaa}, 131), []byte("Test Using Larger Than Block-Size Key - Hash Key First"), "60e431591ee0b67f0d8a26aacbf5b77f8e0bc6213728c5140546040f0ee37f54"},
	} {
		d := mac.Code(c.key, c.text)
		if got := hex.EncodeToString(d[:]); got != c.code {
			t.Errorf("Code(%x, %q) = %s", c.key, c.text, got)
		}
	}
}

func TestCodesOfAllSizes(t *testing.T) { // P2.1
	for n := range 140 {
		if mac.Code(text(n), text(77)) != want(text(n), text(77)) {
			t.Errorf("a key of %d bytes", n)
		}
		if mac.Code(text(32), text(n)) != want(text(32), text(n)) {
			t.Errorf("a text of %d bytes", n)
		}
	}
}

func TestParts(t *testing.T) { // P2.1
	key, b := text(32), text(150)
	if mac.Code(key) != want(key, nil) || mac.Code(nil) != want(nil, nil) || mac.Code(nil, nil, nil) != want(nil, nil) {
		t.Error("without parts")
	}
	for i := range b {
		if mac.Code(key, b[:i], nil, b[i:i+1], b[i+1:]) != want(key, b) {
			t.Errorf("parts at %d", i)
		}
	}
}

func TestSame(t *testing.T) { // P2.1
	for _, c := range []struct {
		a, b []byte
		same bool
	}{
		{nil, nil, true},
		{nil, []byte{}, true},
		{[]byte{0}, nil, false},
		{nil, []byte{0}, false},
		{[]byte{1, 2, 3}, []byte{1, 2, 3}, true},
		{[]byte{1, 2, 3}, []byte{1, 2}, false},
		{[]byte{1, 2}, []byte{1, 2, 3}, false},
		{[]byte{1, 2, 3}, []byte{1, 2, 0}, false},
		{[]byte{1, 2, 3}, []byte{1, 3, 2}, false},
		{[]byte{1, 1}, []byte{2, 2}, false},
	} {
		if mac.Same(c.a, c.b) != c.same {
			t.Errorf("Same(%v, %v)", c.a, c.b)
		}
	}
	a := text(40)
	for i := range a {
		for bit := range 8 {
			b := text(40)
			b[i] ^= 1 << bit
			if mac.Same(a, b) || mac.Same(b, a) {
				t.Errorf("unlike at %d, bit %d", i, bit)
			}
		}
	}
	if !mac.Same(a, text(40)) {
		t.Error("equal texts")
	}
}

func TestKeysWithTheSameCodes(t *testing.T) { // P2.2
	b := text(30)
	for n := range 65 {
		for zeros := 0; n+zeros <= 64; zeros += 7 {
			long := append(text(n), make([]byte, zeros)...)
			if mac.Code(long, b) != mac.Code(text(n), b) {
				t.Errorf("%d bytes and %d zeros", n, zeros)
			}
		}
	}
	if mac.Code(append(text(60), make([]byte, 5)...), b) == mac.Code(text(60), b) {
		t.Error("a key of 65 bytes")
	}
	for n := 65; n < 140; n++ {
		sum := sha.Sum(text(n))
		if mac.Code(text(n), b) != mac.Code(sum[:], b) {
			t.Errorf("a key of %d bytes", n)
		}
	}
	sum := sha.Sum(text(64))
	if mac.Code(text(64), b) == mac.Code(sum[:], b) {
		t.Error("a key of 64 bytes is not summed")
	}
}

func TestArgumentsAreLeftAlone(t *testing.T) { // R3
	key, room := text(20), text(60)
	parts := make([][]byte, 2, 5)
	parts[0], parts[1] = room[:10], room[10:20]
	mac.Code(key, parts...)
	mac.Code(room[:20], room[:5])
	if !bytes.Equal(key, text(20)) || !bytes.Equal(room, text(60)) || parts[:3][2] != nil || len(parts[0]) != 10 {
		t.Error("an argument was changed")
	}
}
