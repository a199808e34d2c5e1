package volume_test

import (
	"slices"
	"strconv"
	"testing"

	"cofferdam/api"
	"cofferdam/bank"
	"cofferdam/commit"
	"cofferdam/nonce"
	"cofferdam/stripe"
	"cofferdam/super"
	"cofferdam/volume"
)

// someChunks tells so many chunks that hang on a seed.
func someChunks(n, seed int) []string {
	var l []string
	for i := range n {
		l = append(l, blockOf(100*seed+i))
	}
	return l
}

// samePlan: are two plans the same?
func samePlan(a, b commit.Plan) bool {
	return alike(a.Super, b.Super) && slices.Equal(a.Blank, b.Blank) && slices.Equal(a.Changes, b.Changes)
}

// put puts chunks into a plan, and holds that the plan is as the document says, that what was handed in hasn't changed, and that nothing was done. It tells the error.
func (w *twins) put(what string, p *commit.Plan, t int, chunks []string, want api.Errno) api.Errno {
	w.t.Helper()
	guard := changeOf(0, 0, "guard")
	whole := append(slices.Clone(p.Changes), guard, guard)
	elder := slices.Clone(whole)
	q := *p
	q.Changes = whole[:len(p.Changes)]
	in := append(slices.Clone(chunks), "guard")
	given := in[:len(chunks)]
	was, record := shotOf(w.b, w.a), w.v.Store().Super()
	e := volume.Put(w.v.Store(), &q, t, given)
	clear(given)
	if f := modelPut(w.m.s, p, t, chunks); e != f || want != whatever && e != want {
		w.t.Fatalf("P21.4: %s: Put(%d) of %d chunks: error %d, the document's %d, want %d", what, t, len(chunks), e, f, want)
	}
	if !samePlan(q, *p) {
		w.t.Fatalf("P21.4: %s: Put(%d): error %d: the plan has %d changes, want %d (or others)", what, t, e, len(q.Changes), len(p.Changes))
	}
	if !slices.Equal(whole, elder) || in[len(chunks)] != "guard" {
		w.t.Fatalf("rule 4: %s: what was handed in has changed", what)
	}
	if diff := shotOf(w.b, w.a).differs(was); diff != "" || !alike(record, w.v.Store().Super()) {
		w.t.Fatalf("P21.4: %s: Put has done something: %s", what, diff)
	}
	w.same(what)
	return e
}

// P21.4: of a nil store or a nil plan ErrNil, ahead of all other errors; the plan is as it was.
func TestPutNil(t *testing.T) {
	w := mounted(t, 5, 2, 4)
	s := w.v.Store()
	p := planOf(s)
	p.Changes = []commit.Change{changeOf(1, 1, "a cell")}
	was := p
	for _, n := range append(slices.Clone(ints), 0, 3, 4) {
		for k := range 6 {
			for i, e := range []api.Errno{volume.Put(nil, &p, n, someChunks(k, 1)), volume.Put(s, nil, n, someChunks(k, 1)), volume.Put(nil, nil, n, nil)} {
				if e != api.ErrNil {
					t.Errorf("P21.4: nil, %d: Put(%d) of %d chunks: error %d", i, n, k, e)
				}
			}
		}
	}
	w.cut(0)
	w.v.Write(0, noughts)
	w.v.Write(1, noughts)
	w.v.Sync()
	if e := volume.Put(s, nil, 0, someChunks(4, 1)); e != api.ErrNil || !s.Dead() {
		t.Errorf("P21.4: nil, and a dead store: error %d", e)
	}
	if !samePlan(p, was) {
		t.Error("P21.4: nil: the plan has changed")
	}
}

// P1: a store that Open didn't tell has no stripes.
func TestPutZeroStore(t *testing.T) {
	var p commit.Plan
	for _, n := range append(slices.Clone(ints), 0, 1) {
		for k := range 5 {
			if e := volume.Put(new(commit.Store), &p, n, someChunks(k, 1)); e != api.ErrArg || len(p.Changes) != 0 {
				t.Errorf("P21.4: a zero store: error %d", e)
			}
		}
	}
}

// P21.4: other numbers of chunks, and stripes that there aren't, are ErrArg; the plan is as it was, and no nonce is used up.
func TestPutArgs(t *testing.T) {
	for data := least; data <= most; data++ {
		for _, slots := range sizes[:3] {
			w := mounted(t, data+more, data, slots)
			p := planOf(w.v.Store())
			for k := range 14 {
				for n := range slots {
					if k != data+more {
						w.put("another number of chunks", &p, n, someChunks(k, 1), api.ErrArg)
					}
				}
				for _, n := range append(slices.Clone(ints), slots, slots+1, 16) {
					w.put("no such stripe", &p, n, someChunks(k, 1), api.ErrArg)
				}
			}
			w.put("no such stripe, and no chunks", &p, -1, nil, api.ErrArg)
			w.put("no such stripe, and no chunks", &p, slots, []string{}, api.ErrArg)
			w.put("no blocks, and too many", &p, 0, slices.Repeat([]string{""}, data+more+1), api.ErrArg)
			w.put("many chunks", &p, 0, someChunks(1000, 1), api.ErrArg)
			w.put("as many as there are", &p, 0, someChunks(data+more, 1), api.OK)
			if _, n, e := nonce.Read(p.Changes[0].Cell[:12]); n != 0 || e != api.OK {
				t.Fatalf("P21.4: %d nonces were used up by ErrArg", n)
			}
		}
	}
}

// P21.4: each chunk, in order, is a Change of the disk on which it lies, with the store's next nonce; behind what the plan has. A commit of the plan lays them there.
func TestPut(t *testing.T) {
	for data := least; data <= most; data++ {
		for _, slots := range sizes {
			w := mounted(t, data+more+1, data, slots)
			p := planOf(w.v.Store())
			first := changeOf(data+more, 1, "the spare's, of which nothing is written")
			p.Changes, p.Blank = []commit.Change{first}, []int{data + more}
			var order []int
			for n := range slots {
				order = append(order, (n*5+3)%slots)
			}
			for turn, n := range order {
				w.put("Put", &p, n, must(stripe.Make(someChunks(data, n+1))), api.OK)
				w.holdChanges(p.Changes[1+turn*(data+more):], n, uint64(turn*(data+more)))
			}
			if len(p.Changes) != 1+slots*(data+more) || p.Changes[0] != first {
				t.Fatalf("P21.4: the plan has %d changes", len(p.Changes))
			}
			w.commit("the plan", func(*commit.Store) commit.Plan { return p })
			for n := range slots {
				for c := range data {
					w.hold("the plan", n*data+c, blockOf(100*(n+1)+c))
				}
			}
			w.holdWhole("the plan")
		}
	}
}

// holdChanges holds that changes are those of a stripe's chunks, sealed with the nonces from a number on.
func (w *twins) holdChanges(l []commit.Change, n int, number uint64) {
	w.t.Helper()
	wide := len(w.v.Store().Shelves(n))
	if len(l) != wide {
		w.t.Fatalf("P21.4: Put(%d): %d changes", n, len(l))
	}
	for c, x := range l {
		epoch, is, _ := nonce.Read(x.Cell[:12])
		if x.Disk != (c+n)%wide || x.Slot != n || epoch != 2 || is != number+uint64(c) {
			w.t.Fatalf("P21.4: Put(%d): the chunk %d is of the disk %d, the slot %d, the nonce %d, %d", n, c, x.Disk, x.Slot, epoch, is)
		}
	}
}

// P21.4: Put asks nothing of the plan but its changes: it may have another record, or none. Chunks are sealed as they are, also if they fit no stripe; of one stripe put twice the later ones are there.
func TestPutOther(t *testing.T) {
	w := mounted(t, 5, 2, 4)
	var none commit.Plan
	w.put("a plan without a record", &none, 1, someChunks(4, 1), api.OK)
	other := commit.Plan{Super: super.Super{Slots: 2, Data: 9}, Blank: []int{-1}}
	w.put("a plan with another record", &other, 3, someChunks(4, 2), api.OK)
	p := planOf(w.v.Store())
	w.put("chunks that don't fit", &p, 0, someChunks(4, 3), api.OK)
	w.put("the same stripe", &p, 0, someChunks(4, 4), api.OK)
	w.commit("the plan", func(*commit.Store) commit.Plan { return p })
	w.hold("the later ones", 0, blockOf(400))
	w.hold("the later ones", 1, blockOf(401))
	if s := w.v.Store(); stripe.Whole(s.Shelves(0), 0) {
		t.Error("the measure is wrong: the chunks fit one another")
	}
}

// P21.4, rule 4: the list of the plan that the caller had ahead of Put is apart from the plan's, whatever room there was behind it.
func TestPutList(t *testing.T) {
	w := mounted(t, 5, 2, 4)
	for room := range 12 {
		elder := make([]commit.Change, 2, 2+room)
		elder[0], elder[1] = changeOf(0, 1, "a"), changeOf(1, 2, "b")
		p := commit.Plan{Changes: elder}
		if e := volume.Put(w.v.Store(), &p, 1, someChunks(4, 1)); e != api.OK {
			t.Fatalf("P21.4: error %d", e)
		}
		want := slices.Clone(p.Changes)
		for _, x := range elder[:cap(elder)][2:] {
			if x != (commit.Change{}) {
				t.Fatalf("rule 4: something was written behind a list, %d of room", room)
			}
		}
		clear(elder[:cap(elder)])
		if !slices.Equal(p.Changes, want) || want[0] != changeOf(0, 1, "a") || len(want) != 6 {
			t.Fatalf("rule 4: the plan shares its list's memory, %d of room", room)
		}
	}
}

// states lays the volume's record with other states, on both banks, and mounts it.
func (w *twins) states(what string, edit func(r *super.Super)) {
	w.t.Helper()
	r := w.v.Store().Super()
	r.Count++
	edit(&r)
	text := must(super.Put(r))
	w.tamper(int(r.Count%2), text, 0)
	w.a.Set(r.Count, super.Digest(text))
	w.d.Set(r.Count, super.Digest(text))
	w.remount(what)
}

// P21.4: chunks of which the shelf isn't for use are passed over, and use no nonce up: those of a disk that is Failed, and of one that is Building, from Built on.
func TestPutStates(t *testing.T) {
	for set := range 1 << 4 {
		for built := range 5 {
			w := mounted(t, 6, 2, 4)
			w.states("some are Failed, one is Building", func(r *super.Super) {
				for _, i := range disksOf(set) {
					r.Members[i].State = super.Failed
				}
				r.Members[5].State, r.Seats[3], r.Built = super.Building, 5, built
				r.Members[3].State = super.Failed
			})
			for n := range 4 {
				p := planOf(w.v.Store())
				w.put("some are Failed, one is Building", &p, n, someChunks(4, n), api.OK)
				var disks []int
				for c := range 4 {
					disk := (c + n) % 4
					if disk == 3 && n < built {
						disks = append(disks, 5)
					} else if disk != 3 && set>>disk&1 == 0 {
						disks = append(disks, disk)
					}
				}
				var got []int
				for _, x := range p.Changes {
					got = append(got, x.Disk)
				}
				if !slices.Equal(got, disks) {
					t.Fatalf("P21.4: Failed %d, Built %d: Put(%d): the disks %v, want %v", set, built, n, got, disks)
				}
			}
		}
	}
}

// P21.4: while the volume grows, a new stripe has a chunk more than an old one.
func TestPutGrowing(t *testing.T) {
	w := filled(t, 5, 2, 4)
	w.grow(4)
	for mark := range 4 {
		for n := range 4 {
			wide := 4
			if n < mark {
				wide = 5
			}
			for k := range 7 {
				p := planOf(w.v.Store())
				want := api.ErrArg
				if k == wide {
					want = api.OK
				}
				w.put("Mark "+strconv.Itoa(mark), &p, n, someChunks(k, 1), want)
				if len(p.Changes) > 0 {
					w.holdDisks(p.Changes, n, wide)
				}
			}
		}
		w.widen()
	}
	w.holdFilled("it has grown", map[int]string{8: noughts, 9: noughts, 10: noughts, 11: noughts})
}

// holdDisks holds the disks of the changes of a stripe whose seats are the disks in order.
func (w *twins) holdDisks(l []commit.Change, n, wide int) {
	w.t.Helper()
	for c, x := range l {
		if x.Disk != (c+n)%wide || x.Slot != n || len(l) != wide {
			w.t.Fatalf("P21.4: Put(%d): the chunk %d is of the disk %d, the slot %d", n, c, x.Disk, x.Slot)
		}
	}
}

// P21.4: an error of Seal in the middle: the nonces are used up, or a chunk isn't of Block bytes. Those ahead of it are in the plan, those behind it aren't.
func TestPutErrorInMiddle(t *testing.T) {
	first := changeOf(4, 0, "a cell")
	for at := range 5 {
		for _, length := range []int{0, 1, 31, 33, 64, 256 + 32} {
			w := mounted(t, 6, 3, 4)
			p := commit.Plan{Super: w.v.Store().Super(), Changes: []commit.Change{first}}
			chunks := someChunks(5, 1)
			chunks[at] = someText(length, 1)
			w.put("no block", &p, 2, chunks, api.ErrShape)
			if len(p.Changes) != 1+at || p.Changes[0] != first {
				t.Fatalf("P21.4: no block at %d: %d changes", at, len(p.Changes))
			}
			w.put("behind it", &p, 2, someChunks(5, 1), api.OK)
			if _, n, _ := nonce.Read(p.Changes[1+at].Cell[:12]); n != uint64(at+1) {
				t.Fatalf("P20.4: an error used up %d nonces", n)
			}
		}
		w := mounted(t, 6, 3, 4)
		w.useUp(uint64(at))
		p := commit.Plan{Super: w.v.Store().Super(), Changes: []commit.Change{first}}
		for range 2 {
			w.put("used up", &p, 1, someChunks(5, 1), api.ErrUsed)
			if len(p.Changes) != 1+at || p.Changes[0] != first {
				t.Fatalf("P21.4: %d nonces: %d changes", at, len(p.Changes))
			}
		}
		w.put("used up, and no such stripe", &p, 4, someChunks(5, 1), api.ErrArg)
	}
}

// P21.4: of a dead store Put has Seal's ErrPower, if a chunk is to be sealed; behind ErrArg. The plan is as it was.
func TestPutDead(t *testing.T) {
	w := mounted(t, 5, 2, 4)
	w.states("all are Failed but one", func(r *super.Super) {
		for _, i := range []int{0, 1, 2} {
			r.Members[i].State = super.Failed
		}
	})
	p := planOf(w.v.Store())
	w.put("one is Active", &p, 1, someChunks(4, 1), api.OK)
	w.cut(0)
	e := w.v.Store().Commit(p)
	w.agree("no power", e, w.m.s.Commit(p), api.ErrPower)
	for range 2 {
		w.put("dead", &p, 1, someChunks(4, 1), api.ErrPower)
		w.put("dead, and no such stripe", &p, 4, someChunks(4, 1), api.ErrArg)
		w.put("dead, and no such number", &p, 1, someChunks(5, 1), api.ErrArg)
		w.both(func(b *bank.Bank) { b.Crash() })
	}
	if len(p.Changes) != 1 {
		t.Errorf("P21.4: dead: %d changes", len(p.Changes))
	}
	w.remount("behind it")
	w.states("all are Failed", func(r *super.Super) { r.Members[3].State = super.Failed })
	w.put("none is for use", &p, 1, someChunks(4, 1), api.OK)
	w.put("none is for use, and no such number", &p, 1, someChunks(3, 1), api.ErrArg)
	w.put("none is for use, and no blocks", &p, 2, slices.Repeat([]string{""}, 4), api.OK)
	if len(p.Changes) != 1 {
		t.Errorf("P21.4: none is for use: %d changes", len(p.Changes))
	}
}

// P21.4: what waits is no part of what is put, and is lost by no commit of it.
func TestPutWhileBlocksWait(t *testing.T) {
	w := filled(t, 5, 2, 4)
	w.write("Write", 2, blockOf(40), api.OK)
	p := planOf(w.v.Store())
	w.put("a stripe", &p, 1, must(stripe.Make(someChunks(2, 1))), api.OK)
	w.commit("a stripe", func(*commit.Store) commit.Plan { return p })
	w.holdPending("a stripe", 1)
	w.holdFilled("a stripe", map[int]string{2: blockOf(40), 3: blockOf(101)})
	w.sync("Sync", api.OK)
	w.holdFilled("Sync", map[int]string{2: blockOf(40), 3: blockOf(101)})
	w.remount("Sync")
	w.holdFilled("Sync", map[int]string{2: blockOf(40), 3: blockOf(101)})
}
