package fence_test

import (
	"math"
	"testing"

	"planchet/fence"
)

// high reports whether a is at least as high as b, as the document describes it.
func high(a, b fence.Marks) bool {
	return a.Gen >= b.Gen && (a.Key > b.Key || a.Key == b.Key && a.High >= b.High)
}

func all() []fence.Marks {
	some := []int{math.MinInt, -1, 0, 1, 2, math.MaxInt}
	var l []fence.Marks
	for _, gen := range some {
		for _, key := range some {
			for _, top := range some {
				l = append(l, fence.Marks{Gen: gen, Key: key, High: top})
			}
		}
	}
	return l
}

func TestLeast(t *testing.T) { // P14.1
	for _, c := range []struct{ a, b, want fence.Marks }{
		{fence.Marks{}, fence.Marks{}, fence.Marks{}},
		{fence.Marks{1, 0, 5}, fence.Marks{0, 1, 2}, fence.Marks{1, 1, 2}},
		{fence.Marks{1, 2, 5}, fence.Marks{3, 1, 9}, fence.Marks{3, 2, 5}},
		{fence.Marks{1, 1, 5}, fence.Marks{1, 1, 6}, fence.Marks{1, 1, 6}},
		{fence.Marks{2, 1, 7}, fence.Marks{1, 1, 6}, fence.Marks{2, 1, 7}},
		{fence.Marks{-5, -1, -7}, fence.Marks{-6, -1, -6}, fence.Marks{-5, -1, -6}},
		{fence.Marks{0, 1, -7}, fence.Marks{0, 0, 9}, fence.Marks{0, 1, -7}},
	} {
		if got := fence.Least(c.a, c.b); got != c.want {
			t.Errorf("Least(%v, %v) = %v", c.a, c.b, got)
		}
		if got := fence.Least(c.b, c.a); got != c.want {
			t.Errorf("Least(%v, %v) = %v", c.b, c.a, got)
		}
	}
}

func TestLeastIsLeast(t *testing.T) { // P14.3
	l := all()
	for _, a := range l {
		for _, b := range l {
			least := fence.Least(a, b)
			if !high(least, a) || !high(least, b) {
				t.Fatalf("Least(%v, %v) = %v is not as high", a, b, least)
			}
			for _, c := range l {
				if high(c, a) && high(c, b) && !high(c, least) {
					t.Fatalf("Least(%v, %v) = %v, but %v would do", a, b, least, c)
				}
			}
		}
	}
}

func TestFence(t *testing.T) { // P14.2
	f := fence.New()
	if f == nil || f.Marks() != (fence.Marks{}) {
		t.Fatal("a new fence")
	}
	for _, c := range []struct{ m, want fence.Marks }{
		{fence.Marks{}, fence.Marks{}},
		{fence.Marks{-1, -1, 100}, fence.Marks{}},
		{fence.Marks{1, 0, 5}, fence.Marks{1, 0, 5}},
		{fence.Marks{0, 1, 2}, fence.Marks{1, 1, 2}},
		{fence.Marks{0, 1, 1}, fence.Marks{1, 1, 2}},
		{fence.Marks{0, 0, 99}, fence.Marks{1, 1, 2}},
		{fence.Marks{3, 1, 4}, fence.Marks{3, 1, 4}},
		{fence.Marks{0, 7, 0}, fence.Marks{3, 7, 0}},
		{fence.Marks{math.MaxInt, math.MaxInt, math.MaxInt}, fence.Marks{math.MaxInt, math.MaxInt, math.MaxInt}},
		{fence.Marks{}, fence.Marks{math.MaxInt, math.MaxInt, math.MaxInt}},
	} {
		if got := f.Raise(c.m); got != c.want || f.Marks() != c.want {
			t.Errorf("Raise(%v) = %v, %v", c.m, got, f.Marks())
		}
	}
	if fence.New().Marks() != (fence.Marks{}) {
		t.Error("fences share their marks")
	}
}

func TestNeverSinks(t *testing.T) { // P14.3
	f := fence.New()
	l := all()
	for i := range l {
		before := f.Marks()
		f.Raise(l[i*89%len(l)])
		if !high(f.Marks(), before) || !high(f.Marks(), l[i*89%len(l)]) {
			t.Errorf("%v after %v", f.Marks(), before)
		}
	}
}

func TestNil(t *testing.T) { // P14.2
	var f *fence.Fence
	if f.Raise(fence.Marks{1, 2, 3}) != (fence.Marks{}) || f.Marks() != (fence.Marks{}) {
		t.Error("a nil fence")
	}
}
