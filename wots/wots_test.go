package wots_test

import (
	"crypto/sha256"
	"slices"
	"testing"

	"planchet/adrs"
	"planchet/api"
	"planchet/chain"
	"planchet/digits"
	"planchet/keyed"
	"planchet/wots"
)

var (
	seed = api.Digest{1, 2, 3}
	pub  = api.Digest{31: 9}
	at   = api.Adrs{1, 2, 3, 0, 5, 66, 77, 88}
)

// part returns the address of a part.
func part(i int) api.Adrs {
	a := at
	a[5], a[6], a[7] = uint32(i), 0, 0
	return a
}

func run(t *testing.T, x api.Digest, from, steps int, a api.Adrs) api.Digest {
	t.Helper()
	got, e := chain.Run(x, from, steps, pub, a)
	if e != api.OK {
		t.Fatal("chain.Run", e)
	}
	return got
}

func some(n int) []api.Digest {
	l := []api.Digest{{}, {31: 1}, {0: 255, 31: 16}}
	for i := len(l); i < n; i++ {
		l = append(l, api.Digest(sha256.Sum256([]byte{byte(i)})))
	}
	return l
}

func TestParts(t *testing.T) { // P8.1
	secret, public := wots.Secret(seed, at), wots.Public(seed, pub, at)
	if len(secret) != 67 || len(public) != 67 {
		t.Fatalf("%d secret and %d public parts", len(secret), len(public))
	}
	for i := range 67 {
		if secret[i] != keyed.At(seed, part(i)) {
			t.Errorf("secret part %d", i)
		}
		if public[i] != run(t, secret[i], 0, 15, part(i)) {
			t.Errorf("public part %d", i)
		}
	}
}

func TestSign(t *testing.T) { // P8.1
	secret := wots.Secret(seed, at)
	for _, m := range some(6) {
		l, d := wots.Sign(m, seed, pub, at), digits.Of(m)
		if len(l) != 67 {
			t.Fatalf("%d parts", len(l))
		}
		for i := range l {
			if l[i] != run(t, secret[i], 0, d[i], part(i)) {
				t.Errorf("%x: part %d", m, i)
			}
		}
	}
	zeros := wots.Sign(api.Digest{}, seed, pub, at)
	for i := range zeros {
		if (zeros[i] == secret[i]) == (i == 64 || i == 65) {
			t.Errorf("zeros: part %d", i)
		}
	}
}

func TestWordsThatDoNotMatter(t *testing.T) { // P8.1, P8.2
	m := some(4)[3]
	sign := wots.Sign(m, seed, pub, at)
	from, _ := wots.From(sign, m, pub, at)
	for i := range 8 {
		a := at
		a[i]++
		other, _ := wots.From(sign, m, pub, a)
		for what, same := range map[string]bool{
			"Secret": slices.Equal(wots.Secret(seed, a), wots.Secret(seed, at)),
			"Public": slices.Equal(wots.Public(seed, pub, a), wots.Public(seed, pub, at)),
			"Sign":   slices.Equal(wots.Sign(m, seed, pub, a), sign),
			"From":   slices.Equal(other, from),
		} {
			if same != (i >= 5) {
				t.Errorf("%s: word %d", what, i)
			}
		}
	}
}

func TestFrom(t *testing.T) { // P8.2
	l := some(67)
	for _, m := range some(5) {
		got, e := wots.From(l, m, pub, at)
		if e != api.OK || len(got) != 67 {
			t.Fatalf("%x: %d parts, %d", m, len(got), e)
		}
		d := digits.Of(m)
		for i := range got {
			if got[i] != run(t, l[i], d[i], 15-d[i], part(i)) {
				t.Errorf("%x: part %d", m, i)
			}
		}
	}
}

func TestFromWrongNumbers(t *testing.T) { // P8.2
	for _, n := range []int{0, 1, 64, 66, 68, 134, 1000} {
		if got, e := wots.From(make([]api.Digest, n), pub, pub, at); e != api.ErrArg || got != nil {
			t.Errorf("%d parts: %d", n, e)
		}
	}
	if _, e := wots.From(nil, pub, pub, at); e != api.ErrArg {
		t.Error("nil")
	}
}

func TestSignaturesLeadToTheKey(t *testing.T) { // P8.3
	public := wots.Public(seed, pub, at)
	l := some(8)
	for i, m := range l {
		sign := wots.Sign(m, seed, pub, at)
		if got, _ := wots.From(sign, m, pub, at); !slices.Equal(got, public) {
			t.Errorf("%x", m)
		}
		if got, _ := wots.From(sign, l[(i+1)%len(l)], pub, at); slices.Equal(got, public) {
			t.Errorf("%x for another digest", m)
		}
	}
	ots := adrs.Ots(1, 2, 3)
	sign := wots.Sign(l[4], seed, pub, ots)
	if got, _ := wots.From(sign, l[4], pub, ots); !slices.Equal(got, wots.Public(seed, pub, ots)) {
		t.Error("at another address")
	}
}

func TestMemory(t *testing.T) { // R3
	l, m := some(67), some(5)[4]
	got, _ := wots.From(l, m, pub, at)
	if !slices.Equal(l, some(67)) {
		t.Error("the argument was changed")
	}
	again := slices.Clone(got)
	clear(l)
	if !slices.Equal(got, again) {
		t.Error("memory is shared")
	}
}
