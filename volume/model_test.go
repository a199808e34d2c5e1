package volume_test

import (
	"slices"

	"cofferdam/anchor"
	"cofferdam/api"
	"cofferdam/bank"
	"cofferdam/commit"
	"cofferdam/slab"
	"cofferdam/stripe"
	"cofferdam/super"
	"cofferdam/volume"
)

// model is the document's sentences on a volume, over a bank and an anchor of its own.
type model struct {
	b     *bank.Bank
	a     *anchor.Anchor
	key   string
	s     *commit.Store // nil while it isn't mounted
	wrote []written     // all that was written and doesn't last yet, in order
}

// written is a Write that was OK.
type written struct {
	block int
	data  string
}

// format: P21.1.
func (m *model) format(data, slots int) api.Errno {
	if m.s != nil {
		return api.ErrState
	}
	return commit.Format(m.b, m.a, m.key, data, slots)
}

// mount: P21.1.
func (m *model) mount() (e api.Errno) {
	if m.s != nil {
		return api.ErrState
	}
	m.s, e = commit.Open(m.b, m.a, m.key)
	m.wrote = nil
	return e
}

// unmount: P21.1.
func (m *model) unmount() api.Errno {
	if m.s == nil {
		return api.ErrState
	}
	m.s = nil
	return api.OK
}

// ready: P21.2 begins so.
func (m *model) ready() api.Errno {
	if m.s == nil {
		return api.ErrState
	}
	if m.s.Dead() {
		return api.ErrPower
	}
	return api.OK
}

// isBlock: is it from 0 to Blocks less 1?
func (m *model) isBlock(block int) bool {
	return slices.Contains(m.blocks(), block)
}

// blocks tells the numbers of all blocks.
func (m *model) blocks() []int {
	var l []int
	for n := range m.s.Layout().Blocks() {
		l = append(l, n)
	}
	return l
}

// waits tells the bytes of a block that waits.
func (m *model) waits(block int) (string, bool) {
	for i := len(m.wrote) - 1; i >= 0; i-- {
		if m.wrote[i].block == block {
			return m.wrote[i].data, true
		}
	}
	return "", false
}

// pending tells how many blocks wait.
func (m *model) pending() int {
	n := 0
	for i, x := range m.wrote {
		if !slices.ContainsFunc(m.wrote[:i], func(y written) bool { return y.block == x.block }) {
			n++
		}
	}
	return n
}

// read: P21.2.
func (m *model) read(block int) (string, api.Errno) {
	if e := m.ready(); e != api.OK {
		return "", e
	}
	if !m.isBlock(block) {
		return "", api.ErrArg
	}
	if s, ok := m.waits(block); ok {
		return s, api.OK
	}
	t, chunk, e := m.s.Layout().Find(block)
	if e != api.OK {
		panic("the measure is wrong: the block lies nowhere")
	}
	return stripe.One(m.s.Shelves(t), t, chunk)
}

// write: P21.2.
func (m *model) write(block int, data string) api.Errno {
	if e := m.ready(); e != api.OK {
		return e
	}
	if !m.isBlock(block) {
		return api.ErrArg
	}
	if len(data) != api.Block {
		return api.ErrShape
	}
	m.wrote = append(m.wrote, written{block, data})
	return api.OK
}

// sync: P21.3.
func (m *model) sync() api.Errno {
	if e := m.ready(); e != api.OK {
		return e
	}
	if len(m.wrote) == 0 {
		return api.OK
	}
	p := commit.Plan{Super: m.s.Super()}
	for t := 0; t < p.Super.Slots; t++ {
		chunks, e := m.chunks(t)
		if e != api.OK {
			return e
		}
		if len(chunks) == 0 {
			continue
		}
		if e := modelPut(m.s, &p, t, chunks); e != api.OK {
			return e
		}
	}
	e := m.s.Commit(p)
	if e == api.OK {
		m.wrote = nil
	}
	return e
}

// chunks tells those that a stripe is to have; none, if none of its blocks waits. It asks of each block of the volume where it lies.
func (m *model) chunks(t int) ([]string, api.Errno) {
	l := m.s.Layout()
	fresh := make([]string, l.Wide(t))
	n := 0
	for _, block := range m.blocks() {
		is, chunk, _ := l.Find(block)
		s, ok := m.waits(block)
		if is == t && ok {
			fresh[chunk] = s
			n++
		}
	}
	if n == 0 {
		return nil, api.OK
	}
	if n < len(fresh) {
		all, _, e := stripe.Load(m.s.Shelves(t), t)
		if e != api.OK {
			return nil, e
		}
		for i := range fresh {
			if fresh[i] == "" {
				fresh[i] = all[i]
			}
		}
	}
	return stripe.Make(fresh)
}

// modelPut: P21.4. It asks the record and the layout where a chunk lies, and whether it is for use.
func modelPut(s *commit.Store, p *commit.Plan, t int, chunks []string) api.Errno {
	if s == nil || p == nil {
		return api.ErrNil
	}
	l, r := s.Layout(), s.Super()
	if l.Wide(t) == 0 || len(chunks) != l.Wide(t)+more {
		return api.ErrArg
	}
	for i, c := range chunks {
		seat, _ := l.Seat(t, i)
		disk := r.Seats[seat]
		switch is := r.Members[disk].State; {
		case is == super.Active, is == super.Building && t < r.Built:
			cell, e := s.Seal(disk, t, c)
			if e != api.OK {
				return e
			}
			p.Changes = append(p.Changes, changeOf(disk, t, cell))
		}
	}
	return api.OK
}

func changeOf(disk, slot int, cell string) commit.Change {
	return commit.Change{Disk: disk, Change: slab.Change{Slot: slot, Cell: cell}}
}

// status: P21.4.
func (m *model) status() volume.Status {
	if m.s == nil {
		return volume.Status{}
	}
	r := m.s.Super()
	s := volume.Status{Mounted: true, Dead: m.s.Dead(), Blocks: len(m.blocks()), Pending: m.pending()}
	s.Data, s.Mark, s.Built, s.Growing = r.Data, r.Mark, r.Built, r.Growing
	for _, is := range r.Members {
		s.States = append(s.States, is.State)
	}
	return s
}
