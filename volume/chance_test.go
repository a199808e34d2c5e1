package volume_test

import (
	"slices"
	"testing"

	"cofferdam/api"
	"cofferdam/bank"
	"cofferdam/commit"
	"cofferdam/super"
)

// chance tells numbers that are the same each time.
type chance uint64

func (c *chance) below(n int) int {
	*c = *c*6364136223846793005 + 1442695040888963407
	return int((uint64(*c) ^ uint64(*c)>>29) >> 11 % uint64(n))
}

// kept tells for each disk which of its writes that wait are kept.
func (c *chance) kept(disks int) [][]bool {
	var all [][]bool
	for range disks {
		var l []bool
		for range c.below(40) {
			l = append(l, c.below(2) == 0)
		}
		all = append(all, l)
	}
	return all
}

// met is what a call answered.
type met struct {
	call string
	e    api.Errno
}

// row is a row of calls by chance, of twins.
type row struct {
	chance
	*twins
	images [][]string  // a picture of each disk, from some time ago
	seen   map[met]int // how often that was
}

// begin makes a volume, on disks of its own.
func (w *row) begin(t *testing.T) {
	data := least + w.below(3)
	w.twins, w.images = newTwins(t, data+more+w.below(3)), nil
	w.call("Format", w.format("by chance", data, sizes[w.below(3)], whatever))
	w.call("Mount", w.mount("by chance", whatever))
}

func (w *row) call(what string, e api.Errno) {
	w.seen[met{what, e}]++
}

// block tells mostly one that there is.
func (w *row) block() int {
	if w.below(40) == 0 {
		return ints[w.below(len(ints))]
	}
	return w.below(w.v.Status().Blocks+2) - w.below(2)
}

// data tells mostly a block's.
func (w *row) data() string {
	if w.below(20) == 0 {
		return someText(w.below(70), w.below(99))
	}
	return blockOf(w.below(999))
}

// blocks writes some blocks, reads some, and syncs perhaps.
func (w *row) blocks() {
	w.t.Helper()
	for range w.below(8) {
		w.call("Write", w.write("by chance", w.block(), w.data(), whatever))
	}
	for range w.below(6) {
		_, e := w.read("by chance", w.block())
		w.call("Read", e)
	}
	if n := w.below(150); w.below(6) == 0 {
		w.cut(n)
	}
	if w.below(2) == 0 {
		w.call("Sync", w.sync("by chance", whatever))
	}
}

// put puts chunks of some stripes into a plan, and has that committed perhaps.
func (w *row) put() {
	w.t.Helper()
	s := w.v.Store()
	if s == nil {
		return
	}
	p := planOf(s)
	for range w.below(3) {
		n := w.below(s.Layout().Slots+2) - 1
		chunks := someChunks(len(s.Shelves(n)), w.below(99))
		switch w.below(8) {
		case 0:
			chunks = append(chunks, blockOf(1))
		case 1:
			chunks = chunks[:len(chunks)/2]
		case 2:
			if len(chunks) > 0 {
				chunks[w.below(len(chunks))] = someText(w.below(70), 1)
			}
		}
		w.call("Put", w.twins.put("by chance", &p, n, chunks, whatever))
	}
	if w.below(2) == 0 {
		w.keep(&p)
	}
	e := s.Commit(p)
	w.call("Commit", w.agree("by chance", e, w.m.s.Commit(p), whatever))
}

// keep does to a plan's record what a volume does: a disk fails, is rebuilt, is built further; the volume grows.
func (w *row) keep(p *commit.Plan) {
	r := &p.Super
	disk, spare := w.below(len(r.Members)), w.below(len(r.Members))
	sits, is := slices.Index(r.Seats, disk), building(*r)
	switch n := w.below(12); {
	case n == 0 && r.Members[disk].State == super.Active:
		r.Members[disk].State = super.Failed
	case n < 4 && is < 0 && sits >= 0 && r.Members[spare].State == super.Spare:
		r.Seats[sits], r.Members[disk].State, r.Members[spare].State = spare, super.Failed, super.Building
		p.Blank = []int{spare}
	case n < 8 && is >= 0 && r.Built+1 < r.Slots:
		r.Built++
	case n < 9 && is >= 0:
		r.Built, r.Members[is].State = 0, super.Active
	case n == 9 && !r.Growing && r.Data < most && r.Members[spare].State == super.Spare:
		r.Seats, r.Members[spare].State, r.Growing = append(r.Seats, spare), super.Active, true
		p.Blank = []int{spare}
	case n == 10 && r.Growing && r.Mark+1 < r.Slots:
		r.Mark++
	case n == 11 && r.Growing:
		r.Mark, r.Growing, r.Data = 0, false, r.Data+1
	}
}

// meddle does to the disks what isn't the volume's doing.
func (w *row) meddle() {
	disk := w.below(w.b.Size())
	switch n := w.below(40); {
	case n == 0:
		w.kill(disk)
	case n < 12:
		w.tamper(firstPair+w.below(40), someText(w.below(70), w.below(99)), disk)
	case n < 18:
		w.tamper(w.below(firstPair), someText(w.below(70), w.below(99)), disk)
	case n < 26:
		w.images = shotOf(w.b, w.a).images
	case w.images != nil && n < 35:
		w.both(func(b *bank.Bank) { b.Disk(disk).Restore(w.images[disk]) })
	case w.images != nil:
		for i, image := range w.images {
			w.both(func(b *bank.Bank) { b.Disk(i).Restore(image) })
		}
	}
}

// use mounts and unmounts, and has the power come back, perhaps not for long.
func (w *row) use() {
	w.t.Helper()
	if w.below(4) != 0 {
		w.crash(w.kept(w.b.Size())...)
	}
	if n := w.below(60); w.below(5) == 0 {
		w.cut(n)
	}
	if w.below(4) != 0 {
		w.call("Unmount", w.unmount("by chance", whatever))
	}
	if w.below(9) == 0 {
		w.call("Format", w.format("by chance", w.below(5), sizes[w.below(4)], whatever))
	}
	w.call("Mount", w.mount("by chance", whatever))
}

// P21.1 to P21.4, P2: rows of calls by chance, of several volumes by turns, with somebody meddling, against the document's sentences.
func TestRowsOfCalls(t *testing.T) {
	seen := map[met]int{}
	for seed := range 40 {
		var rows []*row
		for i := range 3 {
			w := &row{chance: chance(seed*3 + i), seen: seen}
			w.begin(t)
			rows = append(rows, w)
		}
		for turn := range 300 {
			w := rows[turn%3]
			s := w.v.Store()
			switch n := w.below(20); {
			case s == nil && n < 4:
				w.begin(t)
			case n < 3 || n < 10 && (s == nil || s.Dead()):
				w.use()
			case n < 5:
				w.meddle()
			case n > 15:
				w.put()
			default:
				w.blocks()
			}
		}
	}
	for call, l := range map[string][]api.Errno{
		"Format":  {api.OK, api.ErrState, api.ErrThere, api.ErrArg},
		"Mount":   {api.OK, api.ErrState, api.ErrPower, api.ErrLost},
		"Unmount": {api.OK, api.ErrState},
		"Read":    {api.OK, api.ErrState, api.ErrPower, api.ErrArg, api.ErrLost},
		"Write":   {api.OK, api.ErrState, api.ErrPower, api.ErrArg, api.ErrShape},
		"Sync":    {api.OK, api.ErrState, api.ErrPower, api.ErrLost},
		"Put":     {api.OK, api.ErrArg, api.ErrShape, api.ErrPower},
		"Commit":  {api.OK, api.ErrPower, api.ErrLost},
	} {
		for _, e := range l {
			if seen[met{call, e}] < 10 {
				t.Errorf("chance met %s with error %d only %d times", call, e, seen[met{call, e}])
			}
		}
	}
}

// diary is what whoever uses a volume knows of it, from what was answered alone.
type diary struct {
	chance
	*twins
	lasts  []string       // each block
	waits  map[int]string // those that were written since
	bad    []int          // disks that may do what they like
	images [][]string     // a picture of each disk, from some time ago
}

// read reads all blocks, and holds each.
func (d *diary) read() {
	d.t.Helper()
	for n, s := range d.lasts {
		if fresh, ok := d.waits[n]; ok {
			s = fresh
		}
		d.hold("a diary", n, s)
	}
}

// fresh tells all blocks as they are behind a Sync.
func (d *diary) fresh() []string {
	l := slices.Clone(d.lasts)
	for n, s := range d.waits {
		l[n] = s
	}
	return l
}

// sync syncs, perhaps with a power that fails.
func (d *diary) sync() {
	d.t.Helper()
	if n := d.below(170); d.below(2) == 0 {
		d.cut(n)
	}
	e := d.twins.sync("a diary", whatever)
	if e == api.OK {
		d.lasts, d.waits = d.fresh(), map[int]string{}
		d.crash(d.kept(d.b.Size())...)
		return
	}
	if e != api.ErrPower {
		d.t.Fatalf("P21.3: a diary: Sync: error %d", e)
	}
	d.meddle()
	d.fails()
}

// fails has the power come back behind a Sync within which it failed: all blocks are as they were ahead of it, or all as behind it.
func (d *diary) fails() {
	d.t.Helper()
	d.crash(d.kept(d.b.Size())...)
	d.unmount("a diary", api.OK)
	for d.below(2) == 0 {
		d.cut(d.below(40))
		if d.mount("a diary", whatever) == api.OK {
			d.unmount("a diary", api.OK)
		}
		d.crash(d.kept(d.b.Size())...)
	}
	d.mount("a diary", api.OK)
	elder, fresh := d.lasts, d.fresh()
	d.waits = map[int]string{}
	for n := range elder {
		if s, _ := d.twins.read("a diary", n); s == fresh[n] && s != elder[n] {
			d.lasts = fresh
		}
	}
	d.read()
}

// meddle does to the bad disks what isn't the volume's doing.
func (d *diary) meddle() {
	disk, at := d.bad[d.below(2)], d.below(diskCells)
	switch n := d.below(20); {
	case n == 0:
		d.kill(disk)
	case n < 8:
		d.tamper(at, someText(d.below(70), d.below(99)), disk)
	case n < 11:
		s, _ := d.b.Disk(d.below(d.b.Size())).Read(at)
		d.tamper(at, s, disk)
	case n < 15 || d.images == nil:
		d.images = shotOf(d.b, d.a).images
	default:
		d.both(func(b *bank.Bank) { b.Disk(disk).Restore(d.images[disk]) })
	}
}

// upkeep has the volume grow, or a disk be built anew.
func (d *diary) upkeep() {
	d.t.Helper()
	r := d.v.Store().Super()
	spare := slices.IndexFunc(r.Members, func(m super.Member) bool { return m.State == super.Spare })
	lost := slices.IndexFunc(r.Seats, func(disk int) bool { return r.Members[disk].State == super.Failed })
	switch n := d.below(4); {
	case building(r) >= 0 && n < 2:
		d.buildStep()
	case r.Growing:
		d.widen()
		for len(d.lasts) < d.v.Status().Blocks {
			d.lasts = append(d.lasts, noughts)
		}
	case spare < 0 || building(r) >= 0:
	case lost >= 0 && n < 3:
		d.rebuild(r.Seats[lost], spare)
	case n == 0 && r.Data < most:
		d.grow(spare)
	}
}

// P21.5: rows of writes, Syncs, losses of power, with two disks that do what they like, while the volume grows and disks are built anew: each block is had as it was written last, and behind a loss of power as ahead of the last Sync, or as behind it, all blocks alike.
func TestDiaries(t *testing.T) {
	grown, built := 0, 0
	for seed := range 40 {
		d := &diary{chance: chance(1000 + seed), waits: map[int]string{}}
		data := least + d.below(3)
		slots := sizes[d.below(3)]
		d.twins = mounted(t, data+more+3, data, slots)
		d.lasts = slices.Repeat([]string{noughts}, data*slots)
		first := d.below(data + more)
		d.bad = []int{first, (first + 1 + d.below(data+more-1)) % (data + more)}
		for turn := range 80 {
			switch n := d.below(12); {
			case n < 3:
				d.meddle()
			case n < 5:
				d.upkeep()
			case n < 6:
				d.waits = map[int]string{}
				d.remount("a diary")
			case n < 9:
				d.sync()
			}
			for range d.below(5) {
				n := d.below(len(d.lasts))
				d.waits[n] = blockOf(1000*seed + 10*turn + n)
				d.write("a diary", n, d.waits[n], api.OK)
			}
			d.holdPending("a diary", len(d.waits))
			d.read()
		}
		r := d.v.Store().Super()
		grown += r.Data - data
		for i, disk := range r.Seats {
			if disk != i && i < data+more {
				built++
			}
		}
	}
	if grown < 5 || built < 5 {
		t.Errorf("chance had %d volumes grow, and %d disks be built", grown, built)
	}
}
