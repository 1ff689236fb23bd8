package directory

import (
	"slices"

	"planchet/api"
	"planchet/disk"
	"planchet/hyper"
	"planchet/pack"
)

const (
	lengthSize  = 4 // bytes of the length of a record
	recordParts = 2 // texts of a record before those of the changes
	changeParts = 3
)

// fault is the first error of several steps.
type fault struct{ found api.Errno }

// collect takes the error of a step, and reports whether there was none so far.
func (f *fault) collect(e api.Errno) bool {
	if f.found == api.OK {
		f.found = e
	}
	return f.found == api.OK
}

// area is the part of a disk where the records are.
type area struct {
	disk *disk.Disk
	used int // bytes of the records
}

// left returns how many bytes there is still room for.
func (a area) left() int {
	return max(0, a.disk.Sectors()-areaAt)*a.disk.Size() - a.used
}

// write writes a record behind the others; well collects the errors.
func (a area) write(record []byte, well func(api.Errno) bool) bool {
	size := a.disk.Size()
	for at := a.used; len(record) > 0; {
		sector := areaAt + at/size
		b, e := a.disk.Read(sector)
		if !well(e) {
			return false
		}
		n := copy(b[at%size:], record)
		if !well(a.disk.Write(sector, b)) {
			return false
		}
		record = record[n:]
		at += n
	}
	return true
}

// read returns the first n bytes of the area, if there are as many.
func (a area) read(n int) ([]byte, bool) {
	if n > a.left() {
		return nil, false
	}
	var b []byte
	for i := areaAt; len(b) < n; i++ {
		sector, e := a.disk.Read(i)
		if e != api.OK {
			return nil, false
		}
		b = append(b, sector...)
	}
	return b[:n], true
}

// record returns the record of an epoch.
func record(key, index int, changes []change) []byte {
	l := [][]byte{number(key), number(index)}
	for _, c := range changes {
		b, _ := pack.Row(c.name, number(c.version), c.value) // nothing of it is too long
		l = append(l, b)
	}
	b, _ := pack.Row(l...)
	return append(pack.Number(uint64(len(b)), lengthSize), b...)
}

// read reads all epochs from the disk; it reports whether they are as they should be.
func (x *Directory) read() bool {
	var used int
	if text := x.slots.Text(); len(text) > 0 {
		var ok bool
		if used, ok = numberOf(text); !ok {
			return false
		}
	}
	rest, ok := x.area.read(used)
	for ok && len(rest) > 0 {
		var b []byte
		if b, rest, ok = cut(rest); ok {
			ok = x.readEpoch(b)
		}
	}
	x.area.used = used
	return ok
}

// cut returns the encoding in the first record, and what is behind it.
func cut(b []byte) ([]byte, []byte, bool) {
	if len(b) < lengthSize {
		return nil, nil, false
	}
	n, _ := pack.Of(b[:lengthSize])
	b = b[lengthSize:]
	if n > uint64(len(b)) {
		return nil, nil, false
	}
	return b[:n], b[n:], true
}

// readEpoch lets the changes of a record wait, as if they came again, and makes them the next epoch.
func (x *Directory) readEpoch(b []byte) bool {
	l, e := pack.Split(b)
	if e != api.OK || len(l) < recordParts || x.count() >= api.MaxEpochs {
		return false
	}
	key, ok := numberOf(l[0])
	index, good := numberOf(l[1])
	if !ok || !good || index >= hyper.Many(x.config.Shape) {
		return false
	}
	for _, c := range l[recordParts:] {
		if !x.readChange(c) {
			return false
		}
	}
	x.epochs = x.with(epoch{key, index, x.root(x.waiting)}, x.waiting)
	x.waiting = nil
	return true
}

func (x *Directory) readChange(b []byte) bool {
	l, e := pack.Split(b)
	if e != api.OK || len(l) != changeParts || len(l[2]) == 0 {
		return false
	}
	version, ok := numberOf(l[1])
	value := l[2]
	kind := Update
	switch {
	case value[0] == revoked:
		kind = Revoke
	case version == 1:
		kind = Register
	}
	if !ok || x.Change(kind, l[0], value[1:]) != api.OK {
		return false
	}
	made := x.waiting[len(x.waiting)-1]
	return made.version == version && slices.Equal(made.value, value)
}

// numberOf returns the number that bytes are, if it is one that number writes for one from 0 on.
func numberOf(b []byte) (int, bool) {
	n, e := pack.Of(b)
	if e != api.OK || len(b) != numberSize || int(n) < 0 {
		return 0, false
	}
	return int(n), true
}
