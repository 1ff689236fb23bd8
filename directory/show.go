package directory

import (
	"slices"

	"planchet/api"
	"planchet/commit"
	"planchet/ptree"
)

// Lookup returns what a name stands for, and the proof that nothing came later.
func (x *Directory) Lookup(name []byte) (Answer, api.Errno) {
	return x.answer(name, func(old []change) []change {
		return old[max(0, len(old)-1):]
	})
}

// History returns everything that a name stood for, and the proof that nothing came later.
func (x *Directory) History(name []byte) (Answer, api.Errno) {
	return x.answer(name, func(old []change) []change {
		return old
	})
}

// answer returns what is shown about a name; pick picks out which of its versions are.
func (x *Directory) answer(name []byte, pick func([]change) []change) (Answer, api.Errno) {
	switch {
	case !isName(name):
		return Answer{}, api.ErrArg
	case x.Epoch() == 0:
		return Answer{}, api.ErrTime
	}
	old := x.versions(name)
	index, nonce, e := commit.Index(x.names, name, len(old)+1)
	if e != api.OK {
		return Answer{}, e
	}
	if x.has(index) {
		return Answer{}, api.ErrTwice
	}
	entries := x.entries()
	a := Answer{Next: nonce}
	if a.Absent, e = ptree.Prove(entries, index); e != api.OK {
		return Answer{}, e
	}
	for _, c := range pick(old) {
		shown, e := x.show(c, entries)
		if e != api.OK {
			return Answer{}, e
		}
		a.Shown = append(a.Shown, shown)
	}
	return a, api.OK
}

// show returns a version, with what proves it among the entries.
func (x epochs) show(c change, entries []ptree.Entry) (Shown, api.Errno) {
	index, nonce, e := commit.Index(x.names, c.name, c.version)
	if e != api.OK {
		return Shown{}, e
	}
	_, salt, e := commit.Value(x.names, index, c.value)
	if e != api.OK {
		return Shown{}, e
	}
	p, e := ptree.Prove(entries, index)
	if e != api.OK {
		return Shown{}, e
	}
	return Shown{Version: c.version, Value: slices.Clone(c.value), Nonce: nonce, Salt: salt, Proof: p}, api.OK
}
