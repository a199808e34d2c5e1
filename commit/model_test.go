package commit_test

import (
	"slices"
	"strings"

	"cofferdam/anchor"
	"cofferdam/api"
	"cofferdam/bank"
	"cofferdam/commit"
	"cofferdam/intent"
	"cofferdam/layout"
	"cofferdam/nonce"
	"cofferdam/slab"
	"cofferdam/stripe"
	"cofferdam/super"
)

// model is the document's sentences on a store, over a bank and an anchor of its own.
type model struct {
	b      *bank.Bank
	a      *anchor.Anchor
	key    string
	record super.Super
	source *nonce.Source
	dead   bool
}

// none is the digest of a log without writes.
var none = intent.Empty()

// slabOf tells the slab of a disk of a volume on that bank.
func slabOf(b *bank.Bank, disk, slots int, key string) slab.Slab {
	return slab.Slab{Bank: b, Disk: disk, Slots: slots, Key: key}
}

// modelNone tells why neither call does anything with these, as P20.1 and P20.2 begin alike.
func modelNone(b *bank.Bank, a *anchor.Anchor, key string) api.Errno {
	if b == nil || a == nil {
		return api.ErrNil
	}
	if len(key) != api.Key {
		return api.ErrArg
	}
	for i := 0; b.Disk(i) != nil; i++ {
		if b.Disk(i).Size() < api.Cells {
			return api.ErrArg
		}
	}
	return api.OK
}

// modelPublish: a record is published.
func modelPublish(b *bank.Bank, a *anchor.Anchor, r super.Super) api.Errno {
	t, e := super.Put(r)
	if e != api.OK {
		panic("the measure is wrong: the record isn't good")
	}
	took := 0
	for i := 0; i < b.Size(); i++ {
		e := b.Write(i, int(r.Count&1), t)
		if e == api.OK {
			e = b.Flush(i)
		}
		if e == api.ErrPower {
			return e
		}
		if e == api.OK {
			took++
		}
	}
	if took == 0 {
		return api.ErrLost
	}
	if e := b.Spend(); e != api.OK {
		return e
	}
	return a.Set(r.Count, super.Digest(t))
}

// modelFormat: P20.1.
func modelFormat(b *bank.Bank, a *anchor.Anchor, key string, data, slots int) api.Errno {
	if e := modelNone(b, a, key); e != api.OK {
		return e
	}
	l := layout.Layout{Data: data, Slots: slots}
	if !l.Good() || b.Size() < data+2 {
		return api.ErrArg
	}
	if n, _ := a.Get(); n > 0 {
		return api.ErrThere
	}
	r := super.Super{Count: 1, Epoch: 1, Data: data, Slots: slots, Mark: 0, Built: 0, Growing: false}
	for i := 0; i <= data+1; i++ {
		s := slabOf(b, i, slots, key)
		writes, top, _ := s.Blank()
		if e := s.Apply(writes); e != api.OK {
			return e
		}
		r.Seats = append(r.Seats, i)
		r.Members = append(r.Members, super.Member{State: super.Active, Top: top, Log: none})
	}
	for i := data + 2; i < b.Size(); i++ {
		r.Members = append(r.Members, super.Member{State: super.Spare, Top: strings.Repeat("\x00", 32), Log: none})
	}
	return modelPublish(b, a, r)
}

// modelRecord tells the record that an anchor tells.
func modelRecord(b *bank.Bank, digest string) (super.Super, api.Errno) {
	for i := 0; i < b.Size(); i++ {
		for at := 0; at <= 1; at++ {
			t, e := b.Read(i, at)
			if e == api.ErrPower {
				return super.Super{}, e
			}
			if e != api.OK || super.Digest(t) != digest {
				continue
			}
			if r, e := super.Get(t); e == api.OK && len(r.Members) == b.Size() {
				return r, api.OK
			} else if e == api.OK {
				return super.Super{}, api.ErrLost
			}
		}
	}
	return super.Super{}, api.ErrLost
}

// modelLog tells the writes of a disk's log.
func modelLog(b *bank.Bank, disk int, digest string) []intent.Write {
	first, e := b.Read(disk, api.LogAt)
	n, f := intent.Size(first)
	if e != api.OK || f != api.OK {
		return nil
	}
	cells := []string{first}
	for at := api.LogAt + 1; at < api.LogAt+n; at++ {
		c, e := b.Read(disk, at)
		if e != api.OK {
			return nil
		}
		cells = append(cells, c)
	}
	writes, _ := intent.Get(cells, digest)
	return writes
}

// modelOpen: P20.2.
func modelOpen(b *bank.Bank, a *anchor.Anchor, key string) (*model, api.Errno) {
	if e := modelNone(b, a, key); e != api.OK {
		return nil, e
	}
	count, digest := a.Get()
	if count == 0 {
		return nil, api.ErrNone
	}
	r, e := modelRecord(b, digest)
	if e != api.OK {
		return nil, e
	}
	if r.Epoch >= api.MaxEpoch {
		return nil, api.ErrUsed
	}
	for i := range r.Members {
		m := &r.Members[i]
		if m.State != super.Active && m.State != super.Building {
			continue
		}
		if l := modelLog(b, i, m.Log); len(l) > 0 && slabOf(b, i, r.Slots, key).Apply(l) == api.ErrPower {
			return nil, api.ErrPower
		}
	}
	for i := range r.Members {
		r.Members[i].Log = none
	}
	r.Count, r.Epoch = r.Count+1, r.Epoch+1
	if e := modelPublish(b, a, r); e != api.OK {
		return nil, e
	}
	source, e := nonce.New(r.Epoch, 0)
	if e != api.OK {
		panic("the measure is wrong: there is no such epoch")
	}
	return &model{b: b, a: a, key: key, record: r, source: source}, api.OK
}

// layout: P20.3.
func (m *model) layout() layout.Layout {
	return layout.Layout{Growing: m.record.Growing, Mark: m.record.Mark, Slots: m.record.Slots, Data: m.record.Data}
}

// shelves: P20.3, as if the store lay on that bank. It asks of each seat which chunk lies there.
func (m *model) shelves(b *bank.Bank, t int) []stripe.Shelf {
	l := make([]stripe.Shelf, api.MaxDisks)
	n := 0
	for seat, disk := range m.record.Seats {
		chunk, ok := m.layout().Chunk(t, seat)
		if !ok {
			continue
		}
		n++
		is := m.record.Members[disk]
		l[chunk] = stripe.Shelf{Slab: slabOf(b, disk, m.record.Slots, m.key), Top: is.Top}
		switch is.State {
		case super.Active:
			l[chunk].Use = true
		case super.Building:
			l[chunk].Use = m.record.Built > t
		}
	}
	return l[:n]
}

// seal: P20.4.
func (m *model) seal(disk, slot int, plain string) (string, api.Errno) {
	if m.dead {
		return "", api.ErrPower
	}
	n, e := m.source.Next()
	if e != api.OK {
		return "", e
	}
	return slabOf(m.b, disk, m.record.Slots, m.key).Seal(slot, n, plain)
}

// commit: P20.5.
func (m *model) commit(p commit.Plan) api.Errno {
	if m.dead {
		return api.ErrPower
	}
	e := m.steps(p)
	m.dead = e == api.ErrPower
	return e
}

// asked tells the record that the plan asks for, and whether all of the plan is as it may be.
func (m *model) asked(p commit.Plan) (super.Super, bool) {
	r := p.Super.Copy()
	r.Count, r.Epoch = m.record.Count, m.record.Epoch
	if len(r.Members) != len(m.record.Members) || r.Slots != m.record.Slots {
		return r, false
	}
	for i := range r.Members {
		r.Members[i] = super.Member{State: r.Members[i].State, Top: m.record.Members[i].Top, Log: m.record.Members[i].Log}
	}
	disks := slices.Clone(p.Blank)
	for _, c := range p.Changes {
		disks = append(disks, c.Disk)
	}
	for _, d := range disks {
		if d < 0 || d >= m.b.Size() {
			return r, false
		}
	}
	return r, r.Good()
}

// fate is what becomes of a disk in a commit.
type fate struct {
	writes   []intent.Write
	top, log string
}

// steps goes through the four of a commit.
func (m *model) steps(p commit.Plan) api.Errno {
	r, ok := m.asked(p)
	if !ok {
		return api.ErrForm
	}
	r.Count++
	fates := make([]fate, len(r.Members))
	failed := func(disk int) {
		fates[disk] = fate{}
		if r.Members[disk].State == super.Building {
			r.Built = 0
		}
		r.Members[disk].State = super.Failed
	}
	for i := range fates { // 1
		e := m.fateOf(&fates[i], r, p, i)
		if e == api.ErrPower {
			return e
		} else if e != api.OK {
			failed(i)
		}
	}
	if !stands(r) {
		return api.ErrLost
	}
	for i := range fates { // 2
		e := m.logOf(&fates[i], i)
		if e == api.ErrPower {
			return e
		} else if e != api.OK {
			failed(i)
		}
	}
	if !stands(r) {
		return api.ErrLost
	}
	for i, f := range fates { // 3
		r.Members[i].Log = none
		if len(f.writes) > 0 {
			r.Members[i].Top, r.Members[i].Log = f.top, f.log
		}
	}
	if e := modelPublish(m.b, m.a, r); e != api.OK {
		return e
	}
	m.record = r
	for i, f := range fates { // 4
		if len(f.writes) == 0 {
			continue
		}
		if slabOf(m.b, i, r.Slots, m.key).Apply(f.writes) == api.ErrPower {
			return api.ErrPower
		}
	}
	return api.OK
}

// fateOf: what a commit writes to a disk.
func (m *model) fateOf(f *fate, r super.Super, p commit.Plan, disk int) (e api.Errno) {
	is := r.Members[disk]
	if is.State == super.Spare || is.State == super.Failed {
		return api.OK
	}
	s := slabOf(m.b, disk, r.Slots, m.key)
	for _, d := range p.Blank {
		if d == disk {
			f.writes, f.top, e = s.Blank()
			return e
		}
	}
	var l []slab.Change
	for _, c := range p.Changes {
		if c.Disk == disk {
			l = append(l, slab.Change{Slot: c.Slot, Cell: c.Cell})
		}
	}
	if len(l) > 0 {
		f.writes, f.top, e = s.Prepare(is.Top, l)
	}
	return e
}

// logOf: what a commit writes to a disk stands in its log.
func (m *model) logOf(f *fate, disk int) api.Errno {
	if len(f.writes) == 0 {
		return api.OK
	}
	cells, digest, e := intent.Put(f.writes)
	if e != api.OK {
		return e
	}
	f.log = digest
	for i, c := range cells {
		if e := m.b.Write(disk, api.LogAt+i, c); e != api.OK {
			return e
		}
	}
	return m.b.Flush(disk)
}

// stands: may the volume stand?
func stands(r super.Super) bool {
	active := 0
	for _, d := range r.Seats {
		if r.Members[d].State == super.Active {
			active++
		}
	}
	return len(r.Seats)-active <= 2
}
