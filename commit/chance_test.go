package commit_test

import (
	"slices"
	"testing"

	"cofferdam/api"
	"cofferdam/bank"
	"cofferdam/commit"
	"cofferdam/super"
)

// chance tells numbers that are the same each time.
type chance uint64

func (c *chance) below(n int) int {
	*c = *c*6364136223846793005 + 1442695040888963407
	return int((uint64(*c) ^ uint64(*c)>>29) >> 11 % uint64(n))
}

// row is a row of calls by chance, of twins.
type row struct {
	chance
	*twins
	images [][]string  // a picture of each disk, from some time ago
	seen   map[met]int // how often that was
}

// met is what a call answered.
type met struct {
	call string
	e    api.Errno
}

// begin makes a volume.
func (w *row) begin(t *testing.T) {
	data := least + w.below(3)
	w.twins = newTwins(t, data+more+w.below(3))
	w.twins.format("P20.1: by chance", data, sizes[w.below(3)], api.OK)
	w.images = nil
	w.reopen()
}

// reopen lets power come back, perhaps not for long, and opens the volume, if it can be opened.
func (w *row) reopen() {
	w.t.Helper()
	var kept [][]bool
	for range w.b.Size() {
		var l []bool
		for range w.below(40) {
			l = append(l, w.below(2) == 0)
		}
		kept = append(kept, l)
	}
	w.both(func(b *bank.Bank) { b.Crash(kept...) })
	if n := w.below(60); w.below(4) == 0 {
		w.both(func(b *bank.Bank) { b.Cut(n) })
	}
	w.seen[met{"Open", w.open("P20.2: by chance", whatever)}]++
}

// plain tells mostly a block.
func (w *row) plain() string {
	if w.below(20) == 0 {
		return someText(w.below(70), w.below(99))
	}
	return someText(32, w.below(99))
}

// cell tells mostly one that was sealed for that slot.
func (w *row) cell(disk, slot int) string {
	if w.below(15) == 0 {
		return someText(w.below(80), w.below(99))
	}
	if w.below(60) == 0 {
		return someText(mostBytes-1+w.below(3), w.below(99))
	}
	c, e := w.seal(disk, slot, w.plain())
	w.seen[met{"Seal", e}]++
	return c
}

// disk tells mostly one that there is.
func (w *row) disk() int {
	if w.below(60) == 0 {
		return ints[w.below(len(ints))]
	}
	return w.below(w.b.Size())
}

// slot tells mostly one that there is.
func (w *row) slot() int {
	if w.below(80) == 0 {
		return ints[w.below(len(ints))]
	}
	return w.below(w.s.Super().Slots)
}

// next does to a plan's record what a volume does: a disk fails, is rebuilt, is built further; the volume grows.
func (w *row) next(p *commit.Plan) {
	r := &p.Super
	disk, spare := w.below(len(r.Members)), w.below(len(r.Members))
	building := slices.IndexFunc(r.Members, func(m super.Member) bool { return m.State == super.Building })
	switch n := w.below(12); {
	case n == 0 && r.Members[disk].State == super.Active:
		r.Members[disk].State = super.Failed
	case n < 4 && building < 0 && slices.Contains(r.Seats, disk) && r.Members[spare].State == super.Spare:
		rebuilt(p, disk, spare)
	case n < 8 && building >= 0 && r.Built+1 < r.Slots:
		r.Built++
	case n < 9 && building >= 0:
		r.Built, r.Members[building].State = 0, super.Active
	case n == 9 && !r.Growing && r.Data < most && r.Members[spare].State == super.Spare:
		grown(p, spare)
	case n == 10 && r.Growing && r.Mark < r.Slots:
		r.Mark++
	case n == 11 && r.Growing:
		r.Mark, r.Growing, r.Data = 0, false, r.Data+1
	}
}

// odd does to a plan's record what makes it none that is good, mostly.
func (w *row) odd(p *commit.Plan) {
	r := &p.Super
	switch w.below(9) {
	case 0:
		r.Data += w.below(3) - 1
	case 1:
		r.Slots = sizes[w.below(4)]
	case 2:
		r.Mark += w.below(3) - 1
	case 3:
		r.Built += w.below(3) - 1
	case 4:
		r.Growing = !r.Growing
	case 5:
		r.Seats[w.below(len(r.Seats))] = w.disk()
	case 6:
		r.Members[w.below(len(r.Members))].State = super.State(w.below(6) - 1)
	case 7:
		r.Members = r.Members[:w.below(len(r.Members))]
	case 8:
		p.Blank = append(p.Blank, w.disk())
	}
}

// change makes a commit.
func (w *row) change() {
	w.t.Helper()
	p := w.plan()
	for range w.below(12) {
		disk, slot := w.disk(), w.slot()
		p.Changes = append(p.Changes, changeOf(disk, slot, w.cell(disk, slot)))
	}
	if w.below(3) == 0 {
		w.next(&p)
	}
	if w.below(8) == 0 {
		p.Blank = append(p.Blank, w.below(w.b.Size()))
	}
	if w.below(6) == 0 {
		w.odd(&p)
	}
	if w.below(4) == 0 {
		p.Super.Count, p.Super.Epoch = uint64(w.below(9)), uint64(w.below(9))
		for i := range p.Super.Members {
			p.Super.Members[i].Top, p.Super.Members[i].Log = someText(32, i), someText(w.below(40), i)
		}
	}
	if n := w.below(120); w.below(5) == 0 {
		w.both(func(b *bank.Bank) { b.Cut(n) })
	}
	w.seen[met{"Commit", w.commit("P20.5: by chance", p, whatever)}]++
}

// meddle does to the disks what isn't the store's doing.
func (w *row) meddle() {
	disk := w.below(w.b.Size())
	switch n := w.below(40); {
	case n == 0:
		w.kill(disk)
	case n < 6:
		w.spoil(disk, firstPair+w.below(16))
	case n < 12:
		w.spoil(disk, firstCell+w.below(16))
	case n < 18:
		w.spoil(disk, firstLog+w.below(30))
	case n < 24:
		w.spoil(disk, w.below(2))
	case n < 32:
		w.images = shotOf(w.b, w.a).images
	case w.images != nil && n < 39:
		w.both(func(b *bank.Bank) { b.Disk(disk).Restore(w.images[disk]) })
	case w.images != nil:
		for i, image := range w.images {
			w.both(func(b *bank.Bank) { b.Disk(i).Restore(image) })
		}
	}
}

// spoil changes a cell, or moves another one's bytes there.
func (w *row) spoil(disk, at int) {
	s := someText(w.below(70), w.below(99))
	if w.below(2) == 0 {
		s, _ = w.b.Disk(w.below(w.b.Size())).Read(at)
	}
	w.tamper(at, s, disk)
}

// P20.1 to P20.6, P2: rows of calls by chance, of several volumes by turns, with somebody meddling, against the document's sentences.
func TestRowsOfCalls(t *testing.T) {
	seen := map[met]int{}
	for seed := range 40 {
		var rows []*row
		for i := range 3 {
			w := &row{chance: chance(seed*3 + i), seen: seen}
			w.begin(t)
			rows = append(rows, w)
		}
		for turn := range 300 {
			w := rows[turn%3]
			switch n := w.below(20); {
			case w.s == nil && w.below(3) == 0:
				w.begin(t)
			case n < 3 || w.s == nil || w.s.Dead():
				w.reopen()
			case n < 7:
				w.meddle()
			default:
				w.change()
			}
		}
	}
	for call, l := range map[string][]api.Errno{
		"Open":   {api.OK, api.ErrPower, api.ErrLost},
		"Commit": {api.OK, api.ErrForm, api.ErrPower, api.ErrLost},
		"Seal":   {api.OK, api.ErrArg, api.ErrShape, api.ErrForm},
	} {
		for _, e := range l {
			if seen[met{call, e}] < 10 {
				t.Errorf("chance met %s with error %d only %d times", call, e, seen[met{call, e}])
			}
		}
	}
}
