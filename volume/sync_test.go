package volume_test

import (
	"slices"
	"strconv"
	"testing"

	"cofferdam/aead"
	"cofferdam/api"
	"cofferdam/bank"
	"cofferdam/codec"
	"cofferdam/commit"
	"cofferdam/layout"
	"cofferdam/nonce"
	"cofferdam/rs"
	"cofferdam/stripe"
	"cofferdam/super"
)

// stepsOf tells how many steps a commit makes that writes so many cells to each of some disks.
func stepsOf(disks, writes, cells int) int {
	return 2*disks + 1 + writes*(cells+1+1+cells+1) // records; and of each disk the log's cells, its own, a Flush of both
}

// sealedIn holds that the cell of a stripe's chunk has that nonce.
func (w *twins) sealedIn(what string, t, chunk int, epoch, number uint64) {
	w.t.Helper()
	s := w.v.Store()
	seat, _ := s.Layout().Seat(t, chunk)
	cell, _ := w.b.Disk(s.Super().Seats[seat]).Read(firstCell + t)
	if len(cell) != 60 {
		w.t.Fatalf("P21.3: %s: the chunk %d of the stripe %d has a cell of %d bytes", what, chunk, t, len(cell))
	}
	if is, n, e := nonce.Read(cell[:12]); e != api.OK || is != epoch || n != number {
		w.t.Fatalf("P21.3: %s: the chunk %d of the stripe %d has the nonce %d, %d; want %d, %d", what, chunk, t, is, n, epoch, number)
	}
}

// P21.3: if none waits, Sync is OK and does nothing: no step, no nonce, no record; also without power, and without disks.
func TestSyncNone(t *testing.T) {
	w := filled(t, 5, 2, 4)
	hold := func(what string) {
		t.Helper()
		was := w.v.Store().Super()
		w.refused(what, func() {
			w.sync(what, api.OK)
			w.sync(what, api.OK)
		})
		if !alike(w.v.Store().Super(), was) {
			t.Errorf("P21.3: %s: another record", what)
		}
	}
	hold("none waits")
	w.write("Write", 0, "", api.ErrShape)
	w.write("Write", 8, noughts, api.ErrArg)
	hold("what was written was refused")
	w.cut(0)
	hold("no power")
	w.crash()
	w.write("Write", 0, blockOf(30), api.OK)
	w.sync("a block", api.OK)
	w.sealedIn("a block", 0, 0, 2, 16)
	hold("behind a Sync")
	w.write("Write", 0, blockOf(31), api.OK)
	w.sync("a block", api.OK)
	w.sealedIn("a block behind Syncs of none", 0, 0, 2, 20)
	w.kill(0, 1, 2, 3, 4)
	hold("no disks")
}

// P21.3: of volumes of all sizes one block that waits is there behind Sync, and behind Mount; no other one is changed. The chunks of its stripe are sealed in order, and nothing else is.
func TestSyncOne(t *testing.T) {
	for data := least; data <= most; data++ {
		for i, slots := range sizes {
			w := filled(t, data+more+1, data, slots)
			number := uint64(slots * (data + more))
			want := map[int]string{}
			for _, n := range []int{0, data*slots - 1, data*slots/2 - 1} {
				want[n] = blockOf(500 + n)
				w.write("Write", n, want[n], api.OK)
				w.spent("P21.3: a block", stepsOf(data+more+1, data+more, i+2), func() { w.sync("a block", api.OK) })
				w.holdPending("a block", 0)
				for c := range data + more {
					w.sealedIn("a block", n/data, c, 2, number)
					number++
				}
				w.holdFilled("a block", want)
			}
			w.remount("a block")
			w.holdFilled("behind Mount", want)
			w.holdWhole("behind Mount")
		}
	}
}

// holdWhole holds that all chunks of all stripes can be had, and fit one another.
func (w *twins) holdWhole(what string) {
	w.t.Helper()
	s := w.v.Store()
	for n := range s.Layout().Slots {
		if !stripe.Whole(s.Shelves(n), n) {
			w.t.Fatalf("P21.3: %s: the stripe %d isn't whole", what, n)
		}
	}
}

// P21.3: all blocks of one stripe, some of it, blocks of several stripes, all blocks, one of them twice: they are there, and no other is changed. In whatever order they were written: the stripes' chunks are sealed by rising stripes, each once.
func TestSyncSome(t *testing.T) {
	for _, blocks := range [][]int{
		{3, 4, 5}, {5, 3, 4}, {4, 3}, {5}, {11, 0}, {0, 11}, {6, 2, 9, 4}, {9, 9, 9, 0, 9}, {0, 1, 2, 9, 10, 11}, {11, 9, 10, 2, 1, 0},
		{0, 1, 2, 3, 4, 5, 6, 7, 8, 9, 10, 11}, {11, 10, 9, 8, 7, 6, 5, 4, 3, 2, 1, 0}, {7, 7, 6, 8, 6}, {1, 4, 7, 10},
	} {
		w := filled(t, 5, 3, 4)
		want, stripes := map[int]string{}, map[int]int{}
		for turn, n := range blocks {
			want[n] = blockOf(600 + turn)
			stripes[n/3]++
			w.write("Write", n, want[n], api.OK)
		}
		w.holdPending("Write", len(want))
		w.sync("Sync", api.OK)
		w.holdPending("Sync", 0)
		number := uint64(20)
		for n := range 4 {
			for c := range 5 {
				if stripes[n] > 0 {
					w.sealedIn("Sync", n, c, 2, number)
					number++
				} else {
					w.sealedIn("as it was", n, c, 2, uint64(5*n+c))
				}
			}
		}
		w.holdFilled("Sync", want)
		w.holdWhole("Sync")
		w.remount("Sync")
		w.holdFilled("behind Mount", want)
	}
}

// P21.3: Sync is one commit, however many stripes it has; all blocks of the greatest volume are one too.
func TestSyncIsOneCommit(t *testing.T) {
	w := mounted(t, 10, 8, 16)
	was := w.v.Store().Super().Count
	for n := range 128 {
		w.write("Write", 127-n, blockOf(700+n), api.OK)
	}
	w.spent("P21.3: all blocks", stepsOf(10, 10, 15+16), func() { w.sync("all blocks", api.OK) })
	if r := w.v.Store().Super(); r.Count != was+1 || r.Epoch != 2 {
		t.Errorf("P21.3: Count %d, Epoch %d, behind %d", r.Count, r.Epoch, was)
	}
	for range 2 {
		for n := range 128 {
			w.hold("all blocks", 127-n, blockOf(700+n))
		}
		w.holdWhole("all blocks")
		w.remount("all blocks")
	}
}

// P21.3: what was synced doesn't wait: a Sync behind it writes only what was written since. Blocks that are written with the bytes that they have are synced too.
func TestSyncAgain(t *testing.T) {
	w := filled(t, 5, 2, 4)
	number := uint64(16)
	for turn, n := range []int{3, 0, 3, 7, 6, 6} {
		w.write("Write", n, blockOf(n+1), api.OK)
		w.sync("Sync", api.OK)
		for c := range 4 {
			w.sealedIn("turn "+strconv.Itoa(turn), n/2, c, 2, number)
			number++
		}
	}
	w.holdFilled("Sync", nil)
}

// spoil changes the cells of a stripe's chunks, so that they can't be had.
func (w *twins) spoil(n int, chunks ...int) {
	w.t.Helper()
	s := w.v.Store()
	for _, c := range chunks {
		seat, _ := s.Layout().Seat(n, c)
		w.tamper(firstCell+n, "spoilt", s.Super().Seats[seat])
	}
}

// P21.3: a stripe of which all blocks wait isn't loaded; one of which some do is: where three of its chunks can't be had, that is ErrLost, and all wait still.
func TestSyncLoads(t *testing.T) {
	for _, chunks := range [][]int{{0, 1, 2}, {0, 1, 3}, {0, 2, 3}, {1, 2, 3}, {0, 1, 2, 3}} {
		w := filled(t, 4, 2, 4)
		w.spoil(2, chunks...)
		w.write("Write", 4, blockOf(50), api.OK)
		w.refused("a stripe that can't be loaded", func() {
			w.sync("a stripe that can't be loaded", api.ErrLost)
			w.sync("once more", api.ErrLost)
		})
		w.hold("it waits still", 4, blockOf(50))
		w.write("Write", 5, blockOf(51), api.OK)
		w.sync("all of it waits", api.OK)
		w.holdFilled("all of it was written", map[int]string{4: blockOf(50), 5: blockOf(51)})
		w.holdWhole("all of it was written")
	}
}

// P21.3: a chunk that couldn't be had is made anew by a Sync of another block of its stripe, as the block that it was.
func TestSyncMends(t *testing.T) {
	for first := range 5 {
		for second := range 5 {
			for block := 3; block < 6; block++ {
				w := filled(t, 5, 3, 2)
				w.spoil(1, first, second)
				w.write("Write", block, blockOf(60), api.OK)
				w.sync("two chunks spoilt", api.OK)
				w.holdFilled("two chunks spoilt", map[int]string{block: blockOf(60)})
				w.holdWhole("two chunks spoilt")
			}
		}
	}
}

// P21.3, P21.5: with one, two and three disks lost, each set of them: of up to two the block is there, and the disks are Failed; of three it is ErrLost, the blocks wait still, and what was there ahead is there.
func TestSyncLost(t *testing.T) {
	for set := range 1 << 4 {
		disks := disksOf(set)
		for _, blocks := range [][]int{{2}, {4, 5}, {1, 6, 7}} {
			w := filled(t, 5, 2, 4)
			w.kill(disks...)
			want := map[int]string{}
			for _, n := range blocks {
				want[n] = blockOf(70 + n)
				w.write("Write", n, want[n], api.OK)
			}
			if len(disks) > 2 {
				w.lostSync(set, blocks)
				continue
			}
			w.sync("disks lost", api.OK)
			w.remount("disks lost")
			w.holdFilled("disks lost", want)
			for i, is := range w.v.Status().States {
				if lost := slices.Contains(disks, i); lost != (is == super.Failed) {
					t.Fatalf("P21.3: without %v: the disk %d is %d", disks, i, is)
				}
			}
		}
	}
}

// lostSync: a Sync that is ErrLost.
func (w *twins) lostSync(set int, blocks []int) {
	w.t.Helper()
	for range 2 {
		w.sync("three disks lost", api.ErrLost)
		w.holdPending("three disks lost", len(blocks))
		for _, n := range blocks {
			w.hold("three disks lost", n, blockOf(70+n))
		}
	}
	w.remount("three disks lost")
	for n := range 8 {
		seat := (n%2 + n/2) % 4
		if set>>seat&1 == 1 {
			w.holdError("three disks lost", n, api.ErrLost)
		} else {
			w.hold("three disks lost", n, blockOf(n+1))
		}
	}
}

// P21.3: disks fail one behind the other, with a Sync of each: two are passed over, the third is ErrLost.
func TestSyncWhileDisksFail(t *testing.T) {
	w := filled(t, 6, 3, 4)
	want := map[int]string{}
	for turn, disk := range []int{3, 0} {
		w.kill(disk)
		for _, n := range []int{turn, 5 + turn, 11 - turn} {
			want[n] = blockOf(80*turn + n)
			w.write("Write", n, want[n], api.OK)
		}
		w.sync("a disk fails", api.OK)
		w.holdFilled("a disk fails", want)
		w.remount("a disk fails")
		w.holdFilled("a disk fails", want)
	}
	w.write("Write", 7, blockOf(90), api.OK)
	w.sync("two are Failed", api.OK)
	w.kill(1)
	w.write("Write", 0, blockOf(91), api.OK)
	w.sync("three disks lost", api.ErrLost)
	w.hold("it waits still", 0, blockOf(91))
	w.holdPending("it waits still", 1)
}

// P21.3: an error in the middle: the second stripe can't be loaded. All wait still, what was synced ahead is there; once that stripe can be had, Sync is OK. The nonces of the first stripe are used up.
func TestSyncErrorInMiddle(t *testing.T) {
	w := filled(t, 5, 2, 4)
	images := shotOf(w.b, w.a).images
	w.spoil(2, 0, 1, 2)
	want := map[int]string{0: blockOf(30), 4: blockOf(31), 7: blockOf(32)}
	for _, n := range []int{7, 0, 4} {
		w.write("Write", n, want[n], api.OK)
	}
	for range 2 {
		w.refused("an error in the middle", func() { w.sync("an error in the middle", api.ErrLost) })
		for n := range want {
			w.hold("it waits still", n, want[n])
		}
		w.hold("synced ahead", 1, blockOf(2))
		w.hold("synced ahead", 6, blockOf(7))
		w.holdError("it is lost", 5, api.ErrLost)
	}
	w.both(func(b *bank.Bank) {
		for i := range b.Size() {
			b.Disk(i).Restore(images[i])
		}
	})
	w.sync("once more", api.OK)
	w.sealedIn("the first stripe was sealed twice in vain", 0, 0, 2, 16+4+4)
	w.sealedIn("the stripes rise", 2, 0, 2, 16+4+4+4)
	w.sealedIn("the stripes rise", 3, 3, 2, 16+4+4+11)
	w.holdFilled("once more", want)
	w.remount("once more")
	w.holdFilled("behind Mount", want)
}

// P21.3: which stripe's error is told: that of the first one that has one.
func TestSyncFirstError(t *testing.T) {
	for left := range uint64(9) {
		w := filled(t, 5, 2, 4)
		w.useUp(left)
		w.spoil(2, 0, 1, 2)
		for _, n := range []int{0, 4, 6} {
			w.write("Write", n, blockOf(40+n), api.OK)
		}
		want := api.ErrLost
		if left < 4 {
			want = api.ErrUsed
		}
		w.refused("two errors", func() { w.sync("two errors", want) })
	}
}

// P21.3: the nonces are used up ahead of a Sync, or within one, at each chunk: ErrUsed, nothing is written, all wait still; with just as many as are needed it is OK. Mount has nonces again.
func TestSyncUsedUp(t *testing.T) {
	for left := range uint64(13) {
		w := filled(t, 5, 2, 4)
		w.useUp(left)
		want := map[int]string{2: blockOf(30), 6: blockOf(31), 7: blockOf(32)}
		for n := range want {
			w.write("Write", n, want[n], api.OK)
		}
		if left < 8 {
			for range 2 {
				w.refused("used up", func() { w.sync("used up", api.ErrUsed) })
				w.holdPending("used up", 3)
				w.holdFilled("they wait still", want)
			}
			w.remount("used up")
			w.holdFilled("what was there ahead", nil)
			for n := range want {
				w.write("Write", n, want[n], api.OK)
			}
		}
		w.sync("enough", api.OK)
		w.holdFilled("enough", want)
		w.sync("none waits", api.OK)
		w.remount("enough")
		w.holdFilled("enough", want)
	}
}

// P21.3: Commit's own error: somebody else has mounted the volume, and so set the anchor. All wait still.
func TestSyncBesideAnother(t *testing.T) {
	w := filled(t, 5, 2, 4)
	other := *w
	other.v, other.m = w.another()
	other.mount("somebody else", api.OK)
	w.write("Write", 1, blockOf(31), api.OK)
	w.write("Write", 6, blockOf(32), api.OK)
	for range 2 {
		w.sync("an elder store", api.ErrUsed)
		w.holdPending("an elder store", 2)
		w.holdFilled("an elder store", map[int]string{1: blockOf(31), 6: blockOf(32)})
		other.holdPending("somebody else", 0)
	}
}

// P21.3, layer 18: blocks wait while the volume grows, and lie elsewhere by then: each Sync lays them where they lie. What waits is told all the time, and is lost by none of it.
func TestSyncWhileGrowing(t *testing.T) {
	for data := least; data < most; data++ {
		for _, slots := range sizes[:3] {
			for sync := range slots + 1 {
				w := filled(t, data+more+1, data, slots)
				want := map[int]string{}
				w.writeEach(want, 3, 800)
				w.grow(data + more)
				for step := range slots {
					if step == sync {
						w.sync("it grows", api.OK)
						w.holdFilled("it grows", want)
						w.writeEach(want, 2, 900)
					}
					pending := w.v.Status().Pending
					w.widen()
					w.holdPending("it grows", pending)
				}
				for n := data * slots; n < (data+1)*slots; n++ {
					want[n] = noughts
				}
				w.holdFilled("it has grown", want)
				w.sync("it has grown", api.OK)
				w.holdFilled("it has grown", want)
				w.holdWhole("it has grown")
				if l := w.v.Store().Layout(); l != (layout.Layout{Data: data + 1, Slots: slots}) {
					t.Fatalf("it has grown to %v", l)
				}
				w.remount("it has grown")
				w.holdFilled("behind Mount", want)
			}
		}
	}
}

// writeEach writes each block of which the number is so many more than another's.
func (w *twins) writeEach(want map[int]string, by, seed int) {
	w.t.Helper()
	for n := 0; n < w.v.Status().Blocks; n += by {
		want[n] = blockOf(seed + n)
		w.write("Write", n, want[n], api.OK)
	}
}

// P21.3, P21.5: in a new stripe all of whose blocks wait, but for those that aren't there yet, these are noughts still, when the volume has grown.
func TestSyncNewStripe(t *testing.T) {
	w := filled(t, 5, 2, 4)
	w.grow(4)
	for range 3 {
		w.widen()
	}
	for n := 6; n < 8; n++ { // the stripe 2 has 6, 7 and 8, which isn't there yet
		w.write("Write", n, blockOf(30+n), api.OK)
	}
	w.write("it isn't there yet", 8, blockOf(1), api.ErrArg)
	w.sync("a new stripe", api.OK)
	w.widen()
	w.holdFilled("it has grown", map[int]string{6: blockOf(36), 7: blockOf(37), 8: noughts, 9: noughts, 10: noughts, 11: noughts})
}

// P21.3: while a disk is Building, what is synced lies on it too, of the stripes that were built by then; and when all is built, all of it does.
func TestSyncWhileBuilding(t *testing.T) {
	for disk := range 5 {
		for step := range 4 {
			w := filled(t, 6, 3, 4)
			w.rebuild(disk, 5)
			want := map[int]string{}
			for i := range 4 {
				if i == step {
					w.writeEach(want, 2, 800)
					w.sync("Building", api.OK)
					w.holdFilled("Building", want)
				}
				w.buildStep()
			}
			w.holdFilled("it is built", want)
			w.holdWhole("it is built")
			w.remount("it is built")
			w.kill((disk+1)%5, (disk+2)%5) // the new one is needed by now
			w.holdFilled("it is built", want)
		}
	}
}

// P21.3: whoever has the store may make the volume smaller; a block that lies nowhere then isn't in any stripe of a Sync, and the others are synced.
func TestSyncSmaller(t *testing.T) {
	w := filled(t, 5, 3, 4)
	for _, n := range []int{1, 11} {
		w.write("Write", n, blockOf(40+n), api.OK)
	}
	w.commit("the volume is smaller", smaller)
	w.holdPending("the volume is smaller", 2)
	w.holdError("it lies nowhere", 11, api.ErrArg)
	w.hold("it waits", 1, blockOf(41))
	w.write("the stripe 0 by all of its blocks", 0, blockOf(40), api.OK)
	w.sync("the volume is smaller", api.OK)
	w.holdPending("the volume is smaller", 0)
	w.hold("it lasts", 0, blockOf(40))
	w.hold("it lasts", 1, blockOf(41))
}

// P1, P21.3: whoever has the store and the key may lay chunks of another length, which fit one another: no stripe is made of these and of blocks that wait, which wait still. If all blocks of the stripe wait, it is as it should be again.
func TestSyncOddChunks(t *testing.T) {
	w := filled(t, 5, 2, 4)
	short := []string{"short", "texts"}
	p, q, _ := rs.Encode(short)
	w.commit("short chunks", func(s *commit.Store) commit.Plan {
		plan := planOf(s)
		for i, c := range append(slices.Clone(short), p, q) {
			disk := s.Super().Seats[must(s.Layout().Seat(1, i))]
			once := must(s.Seal(disk, 1, noughts))[:12]
			sealed := must(aead.Seal(key, once, codec.Num(uint64(disk))+codec.Num(1), c))
			plan.Changes = append(plan.Changes, changeOf(disk, 1, once+sealed))
		}
		return plan
	})
	w.hold("short chunks", 2, "short")
	w.hold("short chunks", 3, "texts")
	w.write("Write", 0, blockOf(30), api.OK)
	w.write("Write", 3, blockOf(31), api.OK)
	for range 2 {
		w.refused("short chunks", func() { w.sync("short chunks", api.ErrShape) })
		w.hold("it waits still", 0, blockOf(30))
		w.hold("it waits still", 3, blockOf(31))
	}
	w.write("Write", 2, blockOf(32), api.OK)
	w.sync("all of it waits", api.OK)
	w.holdFilled("all of it waits", map[int]string{0: blockOf(30), 2: blockOf(32), 3: blockOf(31)})
}
