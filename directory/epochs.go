package directory

import (
	"bytes"
	"slices"

	"planchet/api"
	"planchet/commit"
	"planchet/log"
	"planchet/ptree"
	"planchet/wire"
)

// The first bytes of values.
const (
	revoked = 0
	live    = 1
)

// change is a change, as the version that it makes.
type change struct {
	name    []byte
	version int
	value   []byte
	entry   ptree.Entry
}

// epoch is an epoch.
type epoch struct {
	key, index int
	tree       api.Digest // the root of its entries
}

// epochs are all epochs of a directory, from the first one on.
type epochs struct {
	names api.Digest // the key for names
	list  []epoch
	all   []change // those of all epochs
}

func (x epochs) count() int {
	return len(x.list)
}

// with returns the epochs with one more, and its changes.
func (x epochs) with(next epoch, changes []change) epochs {
	x.list = append(slices.Clip(x.list), next)
	x.all = append(slices.Clip(x.all), changes...)
	return x
}

// changeTo returns the change that makes a version of a name.
func (x epochs) changeTo(name []byte, version int, value []byte) (change, api.Errno) {
	index, _, e := commit.Index(x.names, name, version)
	if e != api.OK {
		return change{}, e
	}
	commitment, _, e := commit.Value(x.names, index, value)
	if e != api.OK {
		return change{}, e
	}
	entry := ptree.Entry{Index: index, Commitment: commitment}
	return change{slices.Clone(name), version, value, entry}, api.OK
}

// versions returns all versions of a name, in order.
func (x epochs) versions(name []byte) []change {
	var l []change
	for _, c := range x.all {
		if bytes.Equal(c.name, name) {
			l = append(l, c)
		}
	}
	return l
}

// has reports whether an index is that of a version.
func (x epochs) has(index api.Digest) bool {
	return has(x.all, index)
}

func has(l []change, index api.Digest) bool {
	return slices.ContainsFunc(l, func(c change) bool { return c.entry.Index == index })
}

// waits reports whether a change of a name is one of those that wait.
func waits(waiting []change, name []byte) bool {
	return slices.ContainsFunc(waiting, func(c change) bool { return bytes.Equal(c.name, name) })
}

// entries returns the entries of the last epoch.
func (x epochs) entries() []ptree.Entry {
	return entriesOf(x.all)
}

func entriesOf(l []change) []ptree.Entry {
	var entries []ptree.Entry
	for _, c := range l {
		entries = append(entries, c.entry)
	}
	return entries
}

// root returns the root of the entries of the next epoch, which has these changes.
func (x epochs) root(next []change) api.Digest {
	if len(next) == 0 && len(x.list) > 0 {
		return x.list[len(x.list)-1].tree
	}
	d, _ := ptree.Root(append(x.entries(), entriesOf(next)...)) // their number and their indices were checked
	return d
}

// texts returns the texts of all epochs.
func (x epochs) texts() [][]byte {
	var l [][]byte
	for i, e := range x.list {
		l = append(l, wire.EpochText(i+1, e.tree))
	}
	return l
}

// head returns the head of epoch n, which exists.
func (x epochs) head(n int) wire.Head {
	e := x.list[n-1]
	root, _ := log.Root(x.texts()[:n]) // there are never too many
	return wire.Head{Key: e.key, Epoch: n, Tree: e.tree, Log: root}
}

// isChange reports whether there may be a change of this kind, with this name and value.
func isChange(kind int, name, value []byte) bool {
	most := api.MaxValue - 1
	if kind == Revoke {
		most = 0
	}
	return kind >= Register && kind <= Revoke && isName(name) && len(value) <= most
}

func isName(b []byte) bool {
	return len(b) >= 1 && len(b) <= api.MaxName
}

// follows returns the error that a change of a name with these versions gets.
func follows(kind int, old []change) api.Errno {
	switch {
	case kind == Register && len(old) > 0:
		return api.ErrTwice
	case kind == Register:
		return api.OK
	case len(old) == 0:
		return api.ErrNone
	case old[len(old)-1].value[0] != live:
		return api.ErrState
	}
	return api.OK
}

// valueOf returns the value of the version that a change makes.
func valueOf(kind int, value []byte) []byte {
	if kind == Revoke {
		return []byte{revoked}
	}
	return append([]byte{live}, value...)
}
