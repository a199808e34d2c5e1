package commit_test

import (
	"slices"
	"strconv"
	"testing"

	"cofferdam/api"
	"cofferdam/bank"
	"cofferdam/commit"
	"cofferdam/disk"
	"cofferdam/intent"
	"cofferdam/slab"
	"cofferdam/super"
)

// stepsOf tells how many steps a commit makes that writes so many cells to each disk that it writes to, of all that there are.
func stepsOf(disks int, writes ...int) int {
	n := 2*disks + 1
	for _, w := range writes {
		n += w + 1 + 1 + w + 1 // the log's cells, the disk's, and a Flush of both
	}
	return n
}

// spent holds how many steps something makes.
func (w *twins) spent(what string, want int, do func()) {
	w.t.Helper()
	before := w.b.Steps()
	do()
	if n := w.b.Steps() - before; n != want {
		w.t.Fatalf("P20.5: %s: %d steps, want %d", what, n, want)
	}
}

// holdRest holds that each stripe from one on has the blocks that filled gave it, but for the chunks that lie on some disks.
func (w *twins) holdRest(what string, from int, lost ...int) {
	w.t.Helper()
	for n := from; n < w.s.Layout().Slots; n++ {
		set := 0
		for _, d := range lost {
			set |= 1 << d
		}
		w.holdStripe(what, n, n+1, lostOf(w, set, n)...)
	}
}

// P20.5: a commit of a stripe, of volumes of all sizes: it is there, the others are as they were, and still are behind an Open.
func TestCommit(t *testing.T) {
	for data := least; data <= most; data++ {
		for i, slots := range sizes {
			w := filled(t, data+more, data, slots)
			was := w.s.Super()
			w.spent("a stripe", stepsOf(data+more, slices.Repeat([]int{i + 2}, data+more)...), func() {
				w.commit("P20.5: a stripe", w.plan(w.changes(0, 40)...), api.OK)
			})
			r := w.s.Super()
			if r.Count != was.Count+1 || r.Epoch != was.Epoch {
				t.Fatalf("P20.5: Count %d, Epoch %d, behind %d, %d", r.Count, r.Epoch, was.Count, was.Epoch)
			}
			for range 2 {
				w.holdStripe("P20.5: a stripe", 0, 40)
				w.holdRest("P20.5: a stripe", 1)
				w.open("P20.2: behind a commit", api.OK)
			}
		}
	}
}

// P20.5: what stands on the disks behind a commit of changes of one disk: its log, its pairs and its cell, and the record on all.
func TestCommitOne(t *testing.T) {
	w := filled(t, 5, 2, 4)
	w.open("P20.2", api.OK)
	was, images := w.s.Super(), shotOf(w.b, w.a).images
	s := slabOf(w.b, 2, 4, key)
	cell, _ := w.seal(2, 3, someText(32, 1))
	change := changeOf(2, 3, cell)
	writes, top, _ := s.Prepare(was.Members[2].Top, []slab.Change{change.Change})
	w.commit("P20.5: one disk", w.plan(change), api.OK)
	cells, digest, _ := intent.Put(writes)
	want := was.Copy()
	want.Count++
	want.Members[2].Top, want.Members[2].Log = top, digest
	if r := w.s.Super(); !alike(r, want) || top == was.Members[2].Top || len(cells) != 4 {
		t.Fatalf("P20.5: one disk: %v, want %v", r, want)
	}
	text, _ := super.Put(want)
	copy(images[2][firstLog:], cells)
	for _, x := range writes {
		images[2][x.At] = x.Cell
	}
	for i := range 5 {
		images[i][want.Count%2] = text
		if got := w.b.Disk(i).Image(); !slices.Equal(got, images[i]) {
			t.Errorf("P20.5: one disk: the disk %d has %.60q, want %.60q", i, got, images[i])
		}
	}
	if count, digest := w.a.Get(); count != want.Count || digest != super.Digest(text) {
		t.Errorf("P20.5: the anchor has %d", count)
	}
	if c, e := s.Get(top, 3); c != someText(32, 1) || e != api.OK {
		t.Errorf("P20.5: the chunk is %q, error %d", c, e)
	}
}

// P20.5: of disks without writes the Log is Empty again; a commit of nothing publishes a record.
func TestCommitLogs(t *testing.T) {
	w := filled(t, 5, 2, 4)
	for _, disks := range [][]int{{0, 1, 2, 3}, {1, 3}, {0}, {}, {2}} {
		var l []commit.Change
		var writes []int
		for _, d := range disks {
			cell, _ := w.seal(d, 1, noughts)
			l, writes = append(l, changeOf(d, 1, cell)), append(writes, 3)
		}
		was := w.s.Super()
		w.spent("some disks", stepsOf(5, writes...), func() { w.commit("P20.5: some disks", w.plan(l...), api.OK) })
		for i, m := range w.s.Super().Members {
			if has := slices.Contains(disks, i); has != (m.Log != none) || has != (m.Top != was.Members[i].Top) {
				t.Errorf("P20.5: changes of %v: the disk %d has the log %x", disks, i, m.Log)
			}
		}
		if r := w.s.Super(); r.Count != was.Count+1 {
			t.Errorf("P20.5: changes of %v: Count %d behind %d", disks, r.Count, was.Count)
		}
	}
}

// P20.5: plans that are refused: each is ErrForm, and leaves all as it was.
func TestCommitForm(t *testing.T) {
	w := filled(t, 6, 2, 4)
	member := super.Member{Top: noughts, Log: none}
	type edit func(p *commit.Plan)
	refused := map[string]edit{
		"no record":               func(p *commit.Plan) { p.Super = super.Super{} },
		"fewer members":           func(p *commit.Plan) { p.Super.Members = p.Super.Members[:5] },
		"only the seats' members": func(p *commit.Plan) { p.Super.Members = p.Super.Members[:4] },
		"no members":              func(p *commit.Plan) { p.Super.Members = nil },
		"more members":            func(p *commit.Plan) { p.Super.Members = append(p.Super.Members, member) },
		"many members":            func(p *commit.Plan) { p.Super.Members = slices.Repeat([]super.Member{member}, 1000) },
		"Slots 2":                 func(p *commit.Plan) { p.Super.Slots = 2 },
		"Slots 8":                 func(p *commit.Plan) { p.Super.Slots = 8 },
		"Slots 16":                func(p *commit.Plan) { p.Super.Slots = 16 },
		"Slots 0":                 func(p *commit.Plan) { p.Super.Slots = 0 },
		"Slots 5":                 func(p *commit.Plan) { p.Super.Slots = 5 },
		"Data 1":                  func(p *commit.Plan) { p.Super.Data, p.Super.Seats = 1, []int{0, 1, 2} },
		"Data 3, four seats":      func(p *commit.Plan) { p.Super.Data = 3 },
		"Data 9":                  func(p *commit.Plan) { p.Super.Data = 9 },
		"Mark, not growing":       func(p *commit.Plan) { p.Super.Mark = 1 },
		"Mark below 0":            func(p *commit.Plan) { p.Super.Mark = -1 },
		"Mark beyond Slots":       func(p *commit.Plan) { grown(p, 4).Super.Mark = 5 },
		"growing, four seats":     func(p *commit.Plan) { p.Super.Growing = true },
		"Built, none Building":    func(p *commit.Plan) { p.Super.Built = 1 },
		"Built beyond Slots":      func(p *commit.Plan) { rebuilt(p, 0, 4).Super.Built = 5 },
		"two Building":            func(p *commit.Plan) { rebuilt(rebuilt(p, 0, 4), 1, 5) },
		"no seats":                func(p *commit.Plan) { p.Super.Seats = nil },
		"a seat too few":          func(p *commit.Plan) { p.Super.Seats = p.Super.Seats[:3] },
		"a seat twice":            func(p *commit.Plan) { p.Super.Seats[3] = 0 },
		"a seat of nobody":        func(p *commit.Plan) { p.Super.Seats[3] = 6 },
		"a seat below 0":          func(p *commit.Plan) { p.Super.Seats[0] = -1 },
		"a seat of a spare":       func(p *commit.Plan) { p.Super.Seats[3] = 4 },
		"an Active one's no seat": func(p *commit.Plan) { p.Super.Members[4].State = super.Active },
		"a Spare one's seat":      func(p *commit.Plan) { p.Super.Members[1].State = super.Spare },
		"no such state":           func(p *commit.Plan) { p.Super.Members[1].State = 4 },
		"a state below 0":         func(p *commit.Plan) { p.Super.Members[1].State = -1 },
	}
	for what, do := range refused {
		p := w.plan(w.changes(0, 40)...)
		do(&p)
		w.refused("P20.5: "+what, func() { w.commit("P20.5: "+what, p, api.ErrForm) })
	}
	for _, n := range append(slices.Clone(ints), 6, 7, 12) {
		if n >= 0 && n < 6 {
			continue
		}
		for at := range 4 {
			p := w.plan(w.changes(0, 40)[:3]...)
			q := p
			p.Blank = slices.Insert([]int{0, 0, 5}, at, n)
			q.Changes = slices.Insert(slices.Clone(q.Changes), at, changeOf(n, 0, "cell"))
			w.refused("P20.5: Blank of no disk", func() { w.commit("P20.5: Blank of no disk", p, api.ErrForm) })
			w.refused("P20.5: Change of no disk", func() { w.commit("P20.5: Change of no disk", q, api.ErrForm) })
		}
	}
	w.holdRest("P20.5: behind refused plans", 0)
	w.commit("P20.5: behind refused plans", w.plan(w.changes(0, 40)...), api.OK)
	w.holdStripe("P20.5: behind refused plans", 0, 40)
}

// rebuilt has a plan replace a disk by a spare, as Building and Blank.
func rebuilt(p *commit.Plan, disk, spare int) *commit.Plan {
	p.Super.Members[disk].State, p.Super.Members[spare].State = super.Failed, super.Building
	p.Super.Seats[slices.Index(p.Super.Seats, disk)] = spare
	p.Blank = append(p.Blank, spare)
	return p
}

// grown has a plan give a spare a new seat.
func grown(p *commit.Plan, spare int) *commit.Plan {
	p.Super.Growing, p.Super.Mark = true, 0
	p.Super.Members[spare].State = super.Active
	p.Super.Seats = append(p.Super.Seats, spare)
	p.Blank = append(p.Blank, spare)
	return p
}

// P20.5: Count, Epoch, Tops and Logs are the store's own, whatever the plan has.
func TestCommitOwn(t *testing.T) {
	w := filled(t, 6, 2, 4)
	for _, text := range []string{"", "short", someText(32, 1), someText(33, 1), someText(3000, 1)} {
		for _, n := range []uint64{0, 1, 2, mostEpoch, 1 << 63, 1<<64 - 1} {
			was := w.s.Super()
			p := w.plan(w.changes(0, 40)...)
			p.Super.Count, p.Super.Epoch = n, n
			for i := range p.Super.Members {
				p.Super.Members[i].Top, p.Super.Members[i].Log = text, text
			}
			w.commit("P20.5: another's Tops and Logs", p, api.OK)
			r := w.s.Super()
			if r.Count != was.Count+1 || r.Epoch != was.Epoch || r.Members[4] != was.Members[4] {
				t.Fatalf("P20.5: Count %d, Epoch %d, behind %d, %d", r.Count, r.Epoch, was.Count, was.Epoch)
			}
			w.holdStripe("P20.5: another's Tops and Logs", 0, 40)
			w.holdRest("P20.5: another's Tops and Logs", 1)
		}
	}
	p := w.plan()
	w.commit("P20.5", w.plan(w.changes(2, 41)...), api.OK)
	p.Changes = w.changes(3, 42)
	w.commit("P20.5: a plan on an elder record", p, api.OK)
	w.holdStripe("P20.5: a plan on an elder record", 2, 41)
	w.holdStripe("P20.5: a plan on an elder record", 3, 42)
}

// P20.5: several changes of a slot: the last one is what it has. Changes of disks by turns are those of each, in order.
func TestCommitOrder(t *testing.T) {
	w := filled(t, 4, 2, 4)
	first, second := w.changes(1, 50), w.changes(1, 51)
	other := w.changes(2, 52)
	l := slices.Concat(first, other)
	l = append(l, second[3], second[1], second[0], second[2])
	w.commit("P20.5: twice", w.plan(l...), api.OK)
	w.holdStripe("P20.5: twice", 1, 51)
	w.holdStripe("P20.5: twice", 2, 52)
	w.commit("P20.5: the other way round", w.plan(slices.Concat(second, first)...), api.OK)
	w.holdStripe("P20.5: the other way round", 1, 50)
	w.holdStripe("P20.5: the other way round", 2, 52)
	w.holdStripe("P20.5: the other way round", 0, 1)
	w.holdStripe("P20.5: the other way round", 3, 4)
}

// P20.5: more changes than a log may have writes, of one disk and of all: they are logged as the writes that are left.
func TestCommitMany(t *testing.T) {
	w := filled(t, 4, 2, 16)
	var l []commit.Change
	for seed := range 13 {
		for n := range 16 {
			l = append(l, w.changes(n, 16*seed+n+60)...)
		}
	}
	all := slices.DeleteFunc(slices.Clone(l), func(c commit.Change) bool { return c.Disk != 1 })
	if len(all) <= 2*mostWrites {
		t.Fatalf("the measure is wrong: %d changes", len(all))
	}
	w.spent("many changes of one disk", stepsOf(4, 31), func() { w.commit("P20.5: many changes of one disk", w.plan(all...), api.OK) })
	w.spent("many changes of all disks", stepsOf(4, 31, 31, 31, 31), func() { w.commit("P20.5: many changes of all disks", w.plan(l...), api.OK) })
	for n := range 16 {
		w.holdStripe("P20.5: many changes", n, 16*12+n+60)
	}
	w.open("P20.2: many changes", api.OK)
	for n := range 16 {
		w.holdStripe("P20.2: many changes", n, 16*12+n+60)
	}
}

// P20.5: changes of Spare and Failed disks are none, whatever they are; nor is Blank of them.
func TestCommitUnused(t *testing.T) {
	w := filled(t, 6, 2, 4)
	p := w.plan()
	p.Super.Members[1].State, p.Super.Members[5].State = super.Failed, super.Failed
	w.commit("P20.5: disks are Failed", p, api.OK)
	w.holdStates("disks are Failed", "121102")
	was := w.s.Super()
	p = w.plan(w.changes(0, 40)...)
	for _, d := range []int{1, 4, 5} {
		p.Changes = append(p.Changes, changeOf(d, 0, "cell"), changeOf(d, -1, ""), changeOf(d, 2, someText(mostBytes+1, 1)))
	}
	p.Blank = []int{5, 4, 1, 4}
	w.spent("disks that aren't used", stepsOf(6, 3, 3, 3), func() { w.commit("P20.5: disks that aren't used", p, api.OK) })
	w.holdStates("disks that aren't used", "121102")
	for _, d := range []int{1, 4, 5} {
		if m := w.s.Super().Members[d]; m != was.Members[d] {
			t.Errorf("P20.5: the disk %d isn't used: %v", d, m)
		}
	}
	w.holdStripe("P20.5: disks that aren't used", 0, 40, 1)
	w.holdRest("P20.5: disks that aren't used", 1, 1)
}

// P20.5: a disk that is Blank has noughts everywhere; changes of it are none.
func TestCommitBlank(t *testing.T) {
	for disk := range 4 {
		w := filled(t, 5, 2, 4)
		p := w.plan(w.changes(0, 40)...)
		p.Changes = append(p.Changes, changeOf(disk, -1, "no such slot"))
		p.Blank = []int{disk, disk, disk}
		w.spent("a Blank disk", stepsOf(5, 7, 3, 3, 3), func() { w.commit("P20.5: a Blank disk", p, api.OK) })
		w.holdStates("a Blank disk", "11110")
		for _, s := range w.s.Shelves(0) {
			if s.Slab.Disk != disk {
				continue
			}
			for slot := range 4 {
				if c, e := s.Slab.Get(s.Top, slot); c != noughts || e != api.OK {
					t.Errorf("P20.5: the Blank disk %d: %x, error %d", disk, c, e)
				}
			}
		}
		w.holdBut("P20.5: beside a Blank disk", 0, 40, disk)
		w.open("P20.2: a Blank disk", api.OK)
		w.holdBut("P20.2: beside a Blank disk", 0, 40, disk)
	}
}

// holdBut holds the chunks of a stripe but for that of one disk.
func (w *twins) holdBut(what string, n, seed, disk int) {
	w.t.Helper()
	for i, s := range w.s.Shelves(n) {
		if c, e := s.Slab.Get(s.Top, n); s.Slab.Disk != disk && (c != chunksOf(2, seed)[i] || e != api.OK) {
			w.t.Fatalf("%s: the chunk %d: %x, error %d", what, i, c, e)
		}
	}
}

// P20.5: the record of the plan is what the volume is then: a disk is Failed, a spare takes its seat, is built slot by slot, is Active; the volume grows.
func TestCommitRecord(t *testing.T) {
	w := filled(t, 6, 2, 2)
	p := w.plan()
	p.Super.Members[2].State = super.Failed
	w.commit("P20.5: Failed", p, api.OK)
	w.holdStates("Failed", "112100")
	w.holdRest("P20.5: Failed", 0, 2)
	p = w.plan()
	rebuilt(&p, 2, 4)
	w.commit("P20.5: Building", p, api.OK)
	w.holdStates("Building", "112130")
	for n := range 2 {
		l := w.changes(n, n+1)
		p = w.plan(l...)
		if p.Super.Built = n + 1; n == 1 {
			p.Super.Built, p.Super.Members[4].State = 0, super.Active
		}
		w.commit("P20.5: built", p, api.OK)
	}
	w.holdStates("built", "112110")
	w.holdRest("P20.5: built", 0)
	p = w.plan()
	w.commit("P20.5: it grows", *grown(&p, 5), api.OK)
	w.holdStates("it grows", "112111")
	w.holdRest("P20.5: it grows", 0)
	p = w.plan()
	p.Super.Mark = 1
	w.commit("P20.5: a stripe is wider", p, api.OK)
	p = w.plan(w.changes(0, 70)...)
	p.Super.Data, p.Super.Growing, p.Super.Mark = 3, false, 0
	w.commit("P20.5: it has grown", p, api.OK)
	w.holdStripe("P20.5: it has grown", 0, 70)
	w.open("P20.2: it has grown", api.OK)
	w.holdStripe("P20.2: it has grown", 0, 70)
	if r := w.s.Super(); r.Data != 3 || !slices.Equal(r.Seats, []int{0, 1, 4, 3, 5}) {
		t.Errorf("P20.2: it has grown: %v", r)
	}
}

// failing are the ways by which a disk fails where its changes are prepared: none of its slots' pairs can be had, or the changes are none.
func failing() map[string]func(w *twins, p *commit.Plan, disk int) {
	return map[string]func(w *twins, p *commit.Plan, disk int){
		"dead":           func(w *twins, p *commit.Plan, disk int) { w.kill(disk) },
		"its pairs":      func(w *twins, p *commit.Plan, disk int) { w.change(firstPair+1, disk) },
		"a lower pair":   func(w *twins, p *commit.Plan, disk int) { w.change(firstPair+2, disk) },
		"no such slot":   func(w *twins, p *commit.Plan, disk int) { p.Changes = append(p.Changes, changeOf(disk, 4, "")) },
		"a slot below 0": func(w *twins, p *commit.Plan, disk int) { p.Changes = append(p.Changes, changeOf(disk, -1, "")) },
		"a long cell": func(w *twins, p *commit.Plan, disk int) {
			p.Changes = append(p.Changes, changeOf(disk, 0, someText(mostBytes+1, 1)))
		},
	}
}

// P20.5, 1: one, two and three disks fail where their changes are prepared: Failed they are, or ErrLost.
func TestCommitPrepareFails(t *testing.T) {
	for what, fail := range failing() {
		for set := range 1 << 4 {
			w := filled(t, 5, 2, 4)
			was := w.s.Super()
			p := w.plan(w.changes(0, 40)...)
			var lost []int
			states := []byte("11110")
			for i := range 4 {
				if set>>i&1 == 1 {
					fail(w, &p, i)
					lost, states[i] = append(lost, i), '2'
				}
			}
			what := "P20.5: " + what + ", of " + strconv.Itoa(len(lost)) + " disks"
			if len(lost) > 2 {
				w.refused(what, func() { w.commit(what, p, api.ErrLost) })
				continue
			}
			w.commit(what, p, api.OK)
			w.holdStates(what, string(states))
			r := w.s.Super()
			for _, d := range lost {
				if m := r.Members[d]; m.Top != was.Members[d].Top || m.Log != none {
					t.Fatalf("%s: the failed disk %d has another Top, or a Log", what, d)
				}
			}
			w.holdStripe(what, 0, 40, lost...)
			w.holdRest(what, 1, lost...)
			w.open(what+": Open", api.OK)
			w.holdStripe(what+": Open", 0, 40, lost...)
		}
	}
}

// P20.5: a cell of the greatest length that may be logged.
func TestCommitLongCell(t *testing.T) {
	w := filled(t, 4, 2, 4)
	w.commit("P20.5: a long cell", w.plan(changeOf(1, 2, someText(mostBytes, 1))), api.OK)
	w.holdStates("a long cell", "1111")
	if c, _ := w.b.Read(1, firstCell+2); c != someText(mostBytes, 1) {
		t.Errorf("P20.5: a long cell isn't there")
	}
}

// P20.5, 2: one, two and three disks fail where their logs are written (they are Blank, so that nothing was read of them): Failed they are, or ErrLost; then the others' logs were written, and nothing else is.
func TestCommitLogFails(t *testing.T) {
	for set := range 1 << 4 {
		w := filled(t, 5, 2, 4)
		was := w.s.Super()
		p := w.plan(w.changes(0, 40)...)
		var lost []int
		states := []byte("11110")
		for i := range 4 {
			if set>>i&1 == 1 {
				w.kill(i)
				p.Blank = append(p.Blank, i)
				lost, states[i] = append(lost, i), '2'
			}
		}
		if len(lost) > 2 {
			w.spent("logs fail", len(lost)+(4-len(lost))*(4+1), func() { w.commit("P20.5: logs fail", p, api.ErrLost) })
			holdStore(t, "P20.5: logs fail", w.s, was, false)
			continue
		}
		w.spent("logs fail", len(lost)+(4-len(lost))*(4+1+3+1)+2*(5-len(lost))+len(lost)+1, func() { w.commit("P20.5: logs fail", p, api.OK) })
		w.holdStates("logs fail", string(states))
		for _, d := range lost {
			if m := w.s.Super().Members[d]; m.Top != was.Members[d].Top || m.Log != none {
				t.Fatalf("P20.5: the failed disk %d has another Top, or a Log", d)
			}
		}
		w.holdStripe("P20.5: logs fail", 0, 40, lost...)
		w.holdRest("P20.5: logs fail", 1, lost...)
	}
}

// P20.5, 1 and 2: some disks fail at the one, some at the other; some had failed ahead of it.
func TestCommitBothFail(t *testing.T) {
	for n := range 3 * 3 * 3 * 3 {
		w := filled(t, 5, 2, 4)
		p := w.plan(w.changes(0, 40)...)
		states, lost, first := []byte("11110"), []int{}, 0
		for i, k := 0, n; i < 4; i, k = i+1, k/3 {
			if k%3 == 0 {
				continue
			}
			w.kill(i)
			if k%3 == 1 {
				first++
			} else {
				p.Blank = append(p.Blank, i)
			}
			states[i], lost = '2', append(lost, i)
		}
		switch {
		case first > 2:
			w.refused("P20.5: both", func() { w.commit("P20.5: ErrLost at 1", p, api.ErrLost) })
		case len(lost) > 2:
			was := w.s.Super()
			w.commit("P20.5: ErrLost at 2", p, api.ErrLost)
			holdStore(t, "P20.5: ErrLost at 2", w.s, was, false)
		default:
			w.commit("P20.5: both", p, api.OK)
			w.holdStates("both", string(states))
			w.holdStripe("P20.5: both", 0, 40, lost...)
		}
	}
}

// P20.5: a plan by which more than two of the seats' members aren't Active is ErrLost, and nothing is done; Building ones count, and those on no seat don't.
func TestCommitMayNotStand(t *testing.T) {
	w := filled(t, 7, 2, 4)
	p := w.plan(w.changes(0, 40)...)
	p.Super.Members[5].State, p.Super.Members[6].State = super.Failed, super.Failed
	for i := range 2 {
		p.Super.Members[i].State = super.Failed
	}
	q, r := p, p
	q.Super, r.Super = p.Super.Copy(), p.Super.Copy()
	q.Super.Members[2].State = super.Failed
	r.Super.Members[2].State, r.Super.Built = super.Building, 4
	w.refused("P20.5: three Failed", func() { w.commit("P20.5: three Failed", q, api.ErrLost) })
	w.refused("P20.5: two Failed, one Building", func() { w.commit("P20.5: two Failed, one Building", r, api.ErrLost) })
	p.Super.Members[1].State, p.Super.Built = super.Building, 2
	w.commit("P20.5: one Failed, one Building", p, api.OK)
	w.holdStates("one Failed, one Building", "2311022")
	w.change(firstPair+1, 2)
	p = w.plan(w.changes(0, 41)...)
	w.refused("P20.5: a third one fails", func() { w.commit("P20.5: a third one fails", p, api.ErrLost) })
}

// P20.5: a Building disk that fails at 1 or at 2 is Failed, and Built 0; one that doesn't keeps it, also when another fails.
func TestCommitBuilding(t *testing.T) {
	for _, x := range []struct {
		what   string
		disk   int
		blank  bool
		states string
		built  int
	}{
		{"none", 4, false, "211130", 3},
		{"the Building one, at 1", 4, false, "211120", 0},
		{"the Building one, at 2", 4, true, "211120", 0},
		{"an Active one, at 1", 1, false, "221130", 3},
		{"an Active one, at 2", 1, true, "221130", 3},
	} {
		w := filled(t, 6, 2, 4)
		p := w.plan()
		w.commit("P20.5: Building", *rebuilt(&p, 0, 4), api.OK)
		p = w.plan(w.changes(0, 40)...)
		p.Super.Built = 3
		if x.blank {
			p.Blank = []int{x.disk}
		}
		if x.what != "none" {
			w.kill(x.disk)
		}
		w.commit("P20.5: fails: "+x.what, p, api.OK)
		w.holdStates("fails: "+x.what, x.states)
		if n := w.s.Super().Built; n != x.built {
			t.Errorf("P20.5: fails: %s: Built %d, want %d", x.what, n, x.built)
		}
	}
}

// small has a disk have no cells of chunks any more: its pairs can be read, its log written, but not its chunks.
func (w *twins) small(i int) {
	w.both(func(b *bank.Bank) {
		d := disk.New(firstCell)
		d.Restore(b.Disk(i).Image())
		*b.Disk(i) = *d
	})
}

// P20.5, 4: disks that fail where their writes are made are passed over, in any number: the commit is OK, they are Active, with the new Top and Log.
func TestCommitApplyFails(t *testing.T) {
	for set := range 1 << 4 {
		w := filled(t, 5, 2, 4)
		was := w.s.Super()
		p := w.plan(w.changes(0, 40)...)
		var lost []int
		for i := range 4 {
			if set>>i&1 == 1 {
				w.small(i)
				lost = append(lost, i)
			}
		}
		w.commit("P20.5: chunks can't be written", p, api.OK)
		w.holdStates("chunks can't be written", "11110")
		for i, m := range w.s.Super().Members[:4] {
			if m.Top == was.Members[i].Top || m.Log == none {
				t.Fatalf("P20.5: chunks can't be written: the disk %d has its elder Top, or no Log", i)
			}
		}
		if len(lost) <= 2 {
			w.holdStripe("P20.5: chunks can't be written", 0, 40, lost...)
			w.holdRest("P20.5: chunks can't be written", 1, lost...)
		}
	}
}

// P20.5, 3: a record that no disk takes is ErrLost: the store has its own still, and isn't dead. One that some take is published.
func TestCommitPublishFails(t *testing.T) {
	w := filled(t, 5, 2, 4)
	for disk := range 5 {
		was := w.s.Super()
		w.kill(disk)
		if disk < 4 {
			w.spent("dead disks", 2*(4-disk)+disk+1+1, func() { w.commit("P20.5: dead disks", w.plan(), api.OK) })
			continue
		}
		w.spent("all disks are dead", 5, func() { w.commit("P20.5: all disks are dead", w.plan(), api.ErrLost) })
		holdStore(t, "P20.5: all disks are dead", w.s, was, false)
	}
}

// P20.5, 3: the anchor's error: a store that is elder than another one of the same volume. It isn't dead by it.
func TestCommitElder(t *testing.T) {
	w := filled(t, 4, 2, 4)
	s, m, was := w.s, w.m, w.s.Super()
	w.open("P20.2: another store", api.OK)
	w.s, w.m = s, m
	w.commit("P20.5: the elder store", w.plan(changeOf(0, 0, "a cell")), api.ErrUsed)
	holdStore(t, "P20.5: the elder store", s, was, false)
	if count, _ := w.a.Get(); count != was.Count+1 {
		t.Errorf("P20.5: the elder store: the anchor has %d", count)
	}
}

// P20.5: the last Count there may be.
func TestCommitCounts(t *testing.T) {
	r := recordOf(4)
	r.Count = 1<<64 - 4
	w := laid(t, 4, r)
	w.open("P20.2: the last Counts", api.OK)
	w.commit("P20.5: the last but one", w.plan(), api.OK)
	w.commit("P20.5: the last one", w.plan(), api.OK)
	if r := w.s.Super(); r.Count != 1<<64-1 {
		t.Errorf("P20.5: Count %d", r.Count)
	}
	w.commit("P20.5: behind the last one", w.plan(), api.ErrUsed)
	w.open("P20.2: behind the last one", api.ErrUsed)
}
