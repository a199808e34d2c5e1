package commit

import (
	"slices"

	"cofferdam/api"
	"cofferdam/intent"
	"cofferdam/slab"
	"cofferdam/super"
)

// work is a commit under way.
type work struct {
	ground
	plan  Plan
	next  super.Super  // the record that is to be
	tasks map[int]task // of the disks that have writes
}

// task is what is to be done to a disk.
type task struct {
	writes []intent.Write
	top    string // its tree's behind them
	log    string // the digest of their log
}

// planned: the record that a plan asks for. What only the store can know is the store's own, as whoever made the plan may have had an elder record.
func (s *Store) planned(p Plan) (super.Super, api.Errno) {
	if len(p.Super.Members) != len(s.record.Members) || p.Super.Slots != s.record.Slots || s.reachesBeyond(p) {
		return super.Super{}, api.ErrForm
	}
	r := p.Super.Copy()
	r.Count, r.Epoch = s.record.Count, s.record.Epoch
	for i, m := range s.record.Members {
		r.Members[i].Top, r.Members[i].Log = m.Top, m.Log
	}
	if !r.Good() {
		return super.Super{}, api.ErrForm
	}
	return r, api.OK
}

// reachesBeyond: is one of the plan's disks none of the store's?
func (s *Store) reachesBeyond(p Plan) bool {
	none := func(disk int) bool { return s.bank.Disk(disk) == nil }
	return slices.ContainsFunc(p.Blank, none) || slices.ContainsFunc(p.Changes, func(c Change) bool { return none(c.Disk) })
}

// become: the store has that record, if it can be published.
func (s *Store) become(r super.Super) api.Errno {
	e := s.publish(r)
	if e == api.OK {
		s.record = r
	}
	return e
}

// onEach: something is done of each disk, rising. One that it can't be done of is Failed, as it is behind the others from now on.
func (w *work) onEach(do func(disk int) api.Errno) api.Errno {
	for i := range w.next.Members {
		switch do(i) {
		case api.OK:
		case api.ErrPower:
			return api.ErrPower
		default:
			w.fail(i)
		}
	}
	if !mayStand(w.next) {
		return api.ErrLost
	}
	return api.OK
}

// fail: a disk isn't used any more.
func (w *work) fail(disk int) {
	m := &w.next.Members[disk]
	if m.State == super.Building {
		w.next.Built = 0
	}
	m.State = super.Failed
	delete(w.tasks, disk)
}

// prepare: what the plan does to a disk, if it does something.
func (w *work) prepare(disk int) api.Errno {
	m := w.next.Members[disk]
	if !inUse(m) {
		return api.OK
	}
	var t task
	var e api.Errno
	s, changes := w.slab(disk, w.next.Slots), w.changes(disk)
	switch {
	case slices.Contains(w.plan.Blank, disk):
		t.writes, t.top, e = s.Blank()
	case len(changes) > 0:
		t.writes, t.top, e = s.Prepare(m.Top, changes)
	default:
		return api.OK
	}
	if e != api.OK {
		return e
	}
	w.tasks[disk] = t
	return api.OK
}

// changes: the plan's of a disk, in order.
func (w *work) changes(disk int) []slab.Change {
	var l []slab.Change
	for _, c := range w.plan.Changes {
		if c.Disk == disk {
			l = append(l, c.Change)
		}
	}
	return l
}

// log: a disk's writes stand in its log, so that whoever opens the volume can do them, once the record tells the log's digest.
func (w *work) log(disk int) api.Errno {
	t, ok := w.tasks[disk]
	if !ok {
		return api.OK
	}
	cells, digest, e := intent.Put(t.writes)
	if e != api.OK {
		return e
	}
	t.log = digest
	w.tasks[disk] = t
	return w.lay(disk, api.LogAt, cells...)
}

// outcome: the record behind the commit.
func (w *work) outcome() super.Super {
	emptyLogs(w.next)
	for i := range w.next.Members {
		if t, ok := w.tasks[i]; ok {
			m := &w.next.Members[i]
			m.Top, m.Log = t.top, t.log
		}
	}
	return w.next
}

// apply: all writes are made. Where a disk can't, its top tells so when its chunks are read.
func (w *work) apply() api.Errno {
	for i := range w.next.Members {
		t, ok := w.tasks[i]
		if ok && w.slab(i, w.next.Slots).Apply(t.writes) == api.ErrPower {
			return api.ErrPower
		}
	}
	return api.OK
}

// mayStand: are as few of the seats' members other than Active as a stripe's chunks may be lost?
func mayStand(r super.Super) bool {
	lost := 0
	for _, disk := range r.Seats {
		if r.Members[disk].State != super.Active {
			lost++
		}
	}
	return lost <= parity
}
