package directory_test

import (
	"reflect"
	"slices"
	"testing"

	"planchet/api"
	"planchet/commit"
	"planchet/directory"
	"planchet/ptree"
)

// shown returns what should be shown of a version, among the entries of all.
func shown(t *testing.T, c directory.Config, v version, all []ptree.Entry) directory.Shown {
	t.Helper()
	index, nonce, _ := commit.Index(c.Names, []byte(v.name), v.number)
	_, salt, _ := commit.Value(c.Names, index, v.value)
	p, e := ptree.Prove(all, index)
	if e != api.OK {
		t.Fatal("ptree.Prove", e)
	}
	return directory.Shown{Version: v.number, Value: v.value, Nonce: nonce, Salt: salt, Proof: p}
}

// answer returns what should be shown of a name with these versions.
func answer(t *testing.T, c directory.Config, name string, l []version, all []ptree.Entry) directory.Answer {
	t.Helper()
	next := 1
	var a directory.Answer
	for _, v := range l {
		a.Shown = append(a.Shown, shown(t, c, v, all))
		next = v.number + 1
	}
	index, nonce, _ := commit.Index(c.Names, []byte(name), next)
	p, e := ptree.Prove(all, index)
	if e != api.OK {
		t.Fatal("ptree.Prove", e)
	}
	a.Next, a.Absent = nonce, p
	return a
}

func TestLookupAndHistory(t *testing.T) { // P21.5
	c := config(2, 2)
	d, f := fresh(t, 8)
	x := open(t, c, d, f)
	for _, show := range []func([]byte) (directory.Answer, api.Errno){x.Lookup, x.History} {
		for _, name := range []string{"a", string(make([]byte, 64))} {
			if a, e := show([]byte(name)); e != api.ErrTime || !reflect.DeepEqual(a, directory.Answer{}) {
				t.Errorf("no epochs: %d", e)
			}
		}
		for _, name := range [][]byte{nil, {}, make([]byte, 65)} {
			if a, e := show(name); e != api.ErrArg || !reflect.DeepEqual(a, directory.Answer{}) {
				t.Errorf("%d bytes: %d", len(name), e)
			}
		}
	}
	var all []version
	for i, step := range [][]version{
		{{"a", 1, live("one")}, {"b", 1, live("")}},
		{{"b", 2, live("two")}, {"a", 2, live("three")}},
		{{"a", 3, []byte{0}}},
	} {
		for _, v := range step {
			kind := []int{directory.Register, directory.Update, directory.Revoke}[i]
			change(t, x, kind, v.name, string(v.value[1:]), api.OK)
		}
		publish(t, x)
		all = append(all, step...)
		if i == 2 {
			change(t, x, directory.Register, "c", "waits", api.OK) // which does not count
			change(t, x, directory.Update, "b", "waits", api.OK)
		}
		shows(t, c, x, all)
		if i != 2 {
			x = open(t, c, d, f)
			shows(t, c, x, all)
		}
	}
	for _, show := range []func([]byte) (directory.Answer, api.Errno){x.Lookup, x.History} {
		if a, e := show(make([]byte, 65)); e != api.ErrArg || !reflect.DeepEqual(a, directory.Answer{}) {
			t.Errorf("65 bytes: %d", e)
		}
	}
}

// shows checks what is shown of some names.
func shows(t *testing.T, c directory.Config, x *directory.Directory, all []version) {
	t.Helper()
	among := entries(t, c, all)
	for _, name := range []string{"a", "b", "c", string(make([]byte, 64))} {
		l := slices.DeleteFunc(slices.Clone(all), func(v version) bool { return v.name != name })
		if a, e := x.History([]byte(name)); e != api.OK || !reflect.DeepEqual(a, answer(t, c, name, l, among)) {
			t.Errorf("History(%q): %d", name, e)
		}
		last := l[max(0, len(l)-1):]
		if a, e := x.Lookup([]byte(name)); e != api.OK || !reflect.DeepEqual(a, answer(t, c, name, last, among)) {
			t.Errorf("Lookup(%q): %d", name, e)
		}
	}
}
