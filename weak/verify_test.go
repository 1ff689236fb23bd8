package weak

import (
	"strconv"
	"testing"

	"planchet/api"
	"planchet/verify"
)

func TestWhatIsShownIsAccepted(t *testing.T) { // T5: whatever the sums are
	needWeak(t)
	x, versions, _ := filled(t)
	last, _, _ := x.Head(x.Epoch())
	for n := 1; n <= x.Epoch(); n++ {
		h, sig, e := x.Head(n)
		if e != api.OK || !verify.Head(x.Public(h.Key), h, sig) {
			t.Errorf("epoch %d: %d", n, e)
		}
		way, e := x.Audit(n)
		if e != api.OK || !verify.Grows(h, last, way) {
			t.Errorf("from epoch %d: %d", n, e)
		}
	}
	shown := 0
	for i := range 40 {
		name := []byte(strconv.Itoa(i))
		a, e := x.Lookup(name)
		b, f := x.History(name)
		if e == api.ErrTwice && f == e {
			continue
		}
		shown += len(b.Shown)
		if e != api.OK || f != api.OK || !verify.Lookup(last.Tree, name, a) || !verify.History(last.Tree, name, b) {
			t.Errorf("%q, of %d versions: %d, %d", name, versions[string(name)], e, f)
		}
	}
	if shown == 0 {
		t.Error("nothing was shown")
	}
	k, sig, e := x.Roll()
	if e != api.OK || !verify.Next(x.Public(k), k+1, x.Public(k+1), sig) {
		t.Errorf("Roll: %d", e)
	}
}
