// Package disk: a disk that loses what was not synced, when power fails.
package disk

import "granary/api"

// Disk has two files at most, `new` and `cache`.
type Disk struct {
	room    int
	down    bool
	names   names
	synced  names    // as they were when they were synced last
	failure *failure // nil, if none is to come
}

// names say which file has the name `new`, and which the name `cache`: nil is
// none. A file that has no name is lost.
type names struct {
	fresh, cache *file
}

// failure is one that comes behind so many steps more.
type failure struct {
	steps, keep int
}

// New makes a disk that is up, with no file, and room for so many bytes.
func New(room int) *Disk {
	return &Disk{room: room}
}

// Save puts bytes in the place of those in `cache`. They get the name only when
// all of them are synced: so what has the name is whole, whatever step fails.
func (d *Disk) Save(bytes string) api.Errno {
	if d.down {
		return api.ErrDown
	}
	write := func() api.Errno { return d.write(bytes) }
	for _, step := range []func() api.Errno{d.create, write, d.sync, d.rename, d.syncNames} {
		if e := d.take(step); e != api.OK {
			return e
		}
	}
	return api.OK
}

// Load tells the bytes of `cache`.
func (d *Disk) Load() (string, api.Errno) {
	if d.down {
		return "", api.ErrDown
	}
	if d.names.cache == nil {
		return "", api.ErrNone
	}
	return d.names.cache.bytes, api.OK
}

// Fail lets power fail in place of a step, behind so many others, or at once.
func (d *Disk) Fail(steps, keep int) api.Errno {
	switch {
	case steps < 0 || keep < 0:
		return api.ErrArg
	case d.down:
		return api.ErrDown
	case steps == 0:
		d.losePower(keep)
	default:
		d.failure = &failure{steps, keep}
	}
	return api.OK
}

// Start gives power to a disk that is down.
func (d *Disk) Start() api.Errno {
	if !d.down {
		return api.ErrArg
	}
	d.down = false
	return api.OK
}

func (d *Disk) losePower(keep int) {
	d.names = d.synced
	for _, f := range d.names.files() {
		f.lose(keep)
	}
	d.failure = nil
	d.down = true
}
