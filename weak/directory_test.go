package weak

import (
	"slices"
	"strconv"
	"testing"

	"planchet/api"
	"planchet/commit"
	"planchet/directory"
	"planchet/disk"
	"planchet/fence"
)

var config = directory.Config{Shape: api.Shape{Layers: 2, Levels: 2}, Batch: 4, Master: api.Digest{1}, Names: api.Digest{2}}

func open(t *testing.T) *directory.Directory {
	t.Helper()
	d, _ := disk.New(64, 512)
	x, e := directory.Open(config, d, fence.New())
	if e != api.OK {
		t.Fatal("Open", e)
	}
	return x
}

func index(t *testing.T, name string, version int) api.Digest {
	t.Helper()
	d, _, e := commit.Index(config.Names, []byte(name), version)
	if e != api.OK {
		t.Fatal("commit.Index", e)
	}
	return d
}

// filled returns a directory with some names, the numbers of versions that these have, and the indices that exist.
func filled(t *testing.T) (*directory.Directory, map[string]int, []api.Digest) {
	t.Helper()
	x := open(t)
	versions := map[string]int{}
	var used []api.Digest
	refused := 0
	for epoch := range 4 {
		for i := range 14 {
			name, kind := strconv.Itoa(i), directory.Update
			if versions[name] == 0 {
				kind = directory.Register
			}
			next := index(t, name, versions[name]+1)
			want := api.OK
			if slices.Contains(used, next) {
				want = api.ErrTwice
				refused++
			}
			if e := x.Change(kind, []byte(name), []byte(strconv.Itoa(epoch))); e != want {
				t.Fatalf("epoch %d: %q: %d, not %d", epoch, name, e, want)
			}
			if want == api.OK {
				versions[name]++
				used = append(used, next)
			}
		}
		if _, _, e := x.Publish(); e != api.OK {
			t.Fatal("Publish", e)
		}
	}
	if refused == 0 {
		t.Error("no index was that of another version")
	}
	return x, versions, used
}

func TestChange(t *testing.T) { // P21.2: the index of the version is that of another one
	needWeak(t)
	filled(t)
}

func TestLookup(t *testing.T) { // P21.5: the index of the next version is that of another one
	needWeak(t)
	x, versions, used := filled(t)
	refused := 0
	for i := range 40 {
		name := strconv.Itoa(i)
		want := api.OK
		if slices.Contains(used, index(t, name, versions[name]+1)) {
			want = api.ErrTwice
			refused++
		}
		a, e := x.Lookup([]byte(name))
		if e != want || e != api.OK && (a.Shown != nil || a.Next != (api.Digest{}) || a.Absent.Nodes != nil) {
			t.Errorf("Lookup(%q): %d, not %d", name, e, want)
		}
		a, e = x.History([]byte(name))
		if e != want || e == api.OK && len(a.Shown) != versions[name] {
			t.Errorf("History(%q): %d, not %d", name, e, want)
		}
	}
	if refused == 0 || refused == 40 {
		t.Errorf("%d of 40 names are refused", refused)
	}
}

func TestWaitingIndices(t *testing.T) { // P21.2, P21.5: those that wait are included for a change, but not shown
	needWeak(t)
	x := open(t)
	if _, _, e := x.Publish(); e != api.OK {
		t.Fatal("Publish", e)
	}
	for i := range 200 {
		if name := strconv.Itoa(i); index(t, name, 1) == index(t, "a", 1) {
			if e := x.Change(directory.Register, []byte("a"), nil); e != api.OK {
				t.Errorf("the first one: %d", e)
			}
			if e := x.Change(directory.Register, []byte(name), nil); e != api.ErrTwice {
				t.Errorf("the other one: %d", e)
			}
			if _, e := x.Lookup([]byte(name)); e != api.OK {
				t.Errorf("Lookup: %d", e)
			}
			return
		}
	}
	t.Error("no two names with the same index")
}
