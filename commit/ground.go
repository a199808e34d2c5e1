package commit

import (
	"cofferdam/anchor"
	"cofferdam/api"
	"cofferdam/bank"
	"cofferdam/intent"
	"cofferdam/slab"
	"cofferdam/super"
)

// recordCells is in how many cells of a disk records stand, from the first one on. They stand there by turns, so that writing one leaves the elder one as it is.
const recordCells = 2

// ground is what a volume lies on.
type ground struct {
	bank   *bank.Bank
	anchor *anchor.Anchor
	key    string
}

// unfit: why no volume can lie on it; OK if one can.
func (g ground) unfit() api.Errno {
	switch {
	case g.bank == nil || g.anchor == nil:
		return api.ErrNil
	case len(g.key) != api.Key || g.small():
		return api.ErrArg
	}
	return api.OK
}

// small: has a disk too few cells?
func (g ground) small() bool {
	for i := range g.bank.Size() {
		if g.bank.Disk(i).Size() < api.Cells {
			return true
		}
	}
	return false
}

// slab: that of a disk.
func (g ground) slab(disk, slots int) slab.Slab {
	return slab.Slab{Bank: g.bank, Disk: disk, Slots: slots, Key: g.key}
}

// blank: a disk has no chunks; its top then.
func (g ground) blank(disk, slots int) (string, api.Errno) {
	s := g.slab(disk, slots)
	l, top, e := s.Blank()
	if e != api.OK {
		return "", e
	}
	return top, s.Apply(l)
}

// lay: cells of a disk, from one on, have other bytes, which last.
func (g ground) lay(disk, at int, cells ...string) api.Errno {
	for i, c := range cells {
		if e := g.bank.Write(disk, at+i, c); e != api.OK {
			return e
		}
	}
	return g.bank.Flush(disk)
}

// publish: from now on the volume is what a record tells. That is so from when the anchor is set, at once, and by then the record lasts on each disk that could take it.
func (g ground) publish(r super.Super) api.Errno {
	t, e := super.Put(r)
	if e != api.OK {
		return e
	}
	took := false
	for i := range g.bank.Size() {
		switch g.lay(i, int(r.Count%recordCells), t) {
		case api.OK:
			took = true
		case api.ErrPower:
			return api.ErrPower
		}
	}
	if !took {
		return api.ErrLost
	}
	if e := g.bank.Spend(); e != api.OK {
		return e
	}
	return g.anchor.Set(r.Count, super.Digest(t))
}

// find: the record that has that digest. Cells that have another one may hold elder records, or what somebody made up.
func (g ground) find(digest string) (super.Super, api.Errno) {
disks:
	for i := range g.bank.Size() {
		for at := range recordCells {
			t, e := g.bank.Read(i, at)
			if e == api.ErrPower {
				return super.Super{}, e
			}
			if e != api.OK {
				continue disks
			}
			if super.Digest(t) != digest {
				continue
			}
			if r, e := super.Get(t); e == api.OK {
				return g.fitting(r)
			}
		}
	}
	return super.Super{}, api.ErrLost
}

// fitting: the record, if it is one of as many disks as there are.
func (g ground) fitting(r super.Super) (super.Super, api.Errno) {
	if len(r.Members) != g.bank.Size() {
		return super.Super{}, api.ErrLost
	}
	return r, api.OK
}

// redo: what the logs of a record's disks tell is done, as nobody knows how much of it was done when the power failed. Where a disk can't, its top tells so when its chunks are read.
func (g ground) redo(r super.Super) api.Errno {
	for i, m := range r.Members {
		if !inUse(m) {
			continue
		}
		l, e := g.logged(i, m.Log)
		if e == api.OK && len(l) > 0 {
			e = g.slab(i, r.Slots).Apply(l)
		}
		if e == api.ErrPower {
			return e
		}
	}
	return api.OK
}

// logged: the writes of a disk's log, if that has the digest.
func (g ground) logged(disk int, digest string) ([]intent.Write, api.Errno) {
	first, e := g.bank.Read(disk, api.LogAt)
	if e != api.OK {
		return nil, e
	}
	n, e := intent.Size(first)
	if e != api.OK {
		return nil, e
	}
	var cells []string
	for i := range n {
		c, e := g.bank.Read(disk, api.LogAt+i)
		if e != api.OK {
			return nil, e
		}
		cells = append(cells, c)
	}
	return intent.Get(cells, digest)
}

// inUse: are chunks written to that member?
func inUse(m super.Member) bool {
	return m.State == super.Active || m.State == super.Building
}

// emptyLogs: no member of the record has a log with writes.
func emptyLogs(r super.Super) {
	empty := intent.Empty()
	for i := range r.Members {
		r.Members[i].Log = empty
	}
}
