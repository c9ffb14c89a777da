package disk

import "granary/api"

// take takes a step, or lets power fail in its place.
func (d *Disk) take(step func() api.Errno) api.Errno {
	if d.failure == nil {
		return step()
	}
	if d.failure.steps == 0 {
		d.losePower(d.failure.keep)
		return api.ErrPower
	}
	d.failure.steps--
	return step()
}

func (d *Disk) create() api.Errno {
	d.names.fresh = &file{}
	return api.OK
}

func (d *Disk) write(bytes string) api.Errno {
	if d.names.size()+len(bytes) > d.room {
		return api.ErrRoom
	}
	d.names.fresh.bytes += bytes
	return api.OK
}

func (d *Disk) sync() api.Errno {
	d.names.fresh.synced = len(d.names.fresh.bytes)
	return api.OK
}

func (d *Disk) rename() api.Errno {
	d.names = names{cache: d.names.fresh}
	return api.OK
}

func (d *Disk) syncNames() api.Errno {
	d.synced = d.names
	return api.OK
}
