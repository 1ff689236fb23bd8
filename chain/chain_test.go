package chain_test

import (
	"math"
	"testing"

	"planchet/api"
	"planchet/chain"
	"planchet/keyed"
)

var (
	start = api.Digest{1, 2, 3}
	pub   = api.Digest{31: 9}
	at    = api.Adrs{1, 2, 3, 0, 5, 6, 77, 88}
)

// step is one step, as the document describes it.
func step(x api.Digest, j int) api.Digest {
	a := at
	a[6], a[7] = uint32(j), 0
	key := keyed.At(pub, a)
	a[7] = 1
	return keyed.F(key, keyed.Mask(x, keyed.At(pub, a)))
}

func TestRun(t *testing.T) { // P7.1
	for from := range 16 {
		want := start
		for steps := 0; from+steps <= 15; steps++ {
			if got, e := chain.Run(start, from, steps, pub, at); got != want || e != api.OK {
				t.Errorf("from %d, %d steps: %d", from, steps, e)
			}
			want = step(want, from+steps)
		}
	}
	if chain.Most != 15 {
		t.Error("Most")
	}
}

func TestWordsThatDoNotMatter(t *testing.T) { // P7.1
	want, _ := chain.Run(start, 3, 4, pub, at)
	for _, w := range []uint32{0, 1, 2, math.MaxUint32} {
		a := at
		a[6], a[7] = w, w+1
		if got, _ := chain.Run(start, 3, 4, pub, a); got != want {
			t.Errorf("words 6 and 7: %d", w)
		}
	}
	for i := range 6 {
		a := at
		a[i]++
		if got, _ := chain.Run(start, 3, 4, pub, a); got == want {
			t.Errorf("word %d", i)
		}
	}
	if got, _ := chain.Run(start, 3, 4, api.Digest{}, at); got == want {
		t.Error("the public seed")
	}
}

func TestWrongRuns(t *testing.T) { // P7.1, R1, R2
	for _, c := range [][2]int{
		{-1, 0}, {0, -1}, {-1, -1}, {-1, 5}, {5, -1}, {0, 16}, {16, 0}, {15, 1}, {1, 15}, {8, 8},
		{math.MaxInt, 1}, {1, math.MaxInt}, {math.MaxInt, math.MaxInt}, {math.MinInt, math.MinInt},
		{math.MinInt, math.MaxInt}, {math.MaxInt, math.MinInt}, {1, math.MinInt}, {17, -2}, {-2, 17},
	} {
		if got, e := chain.Run(start, c[0], c[1], pub, at); e != api.ErrArg || got != (api.Digest{}) {
			t.Errorf("from %d, %d steps: %d", c[0], c[1], e)
		}
	}
	if got, e := chain.Run(start, 15, 0, pub, at); e != api.OK || got != start {
		t.Error("no steps at the end")
	}
}

func TestRunsOneAfterTheOther(t *testing.T) { // P7.2
	for from := range 16 {
		for one := 0; from+one <= 15; one++ {
			for two := 0; from+one+two <= 15; two++ {
				middle, _ := chain.Run(start, from, one, pub, at)
				end, _ := chain.Run(middle, from+one, two, pub, at)
				if both, _ := chain.Run(start, from, one+two, pub, at); both != end {
					t.Errorf("from %d: %d and %d", from, one, two)
				}
			}
		}
	}
}
