package slab

import (
	"slices"
	"strconv"
	"testing"

	"cofferdam/api"
	"cofferdam/bank"
)

// all tells the slots 0 to n - 1.
func all(n int) []int {
	var l []int
	for i := range n {
		l = append(l, i)
	}
	return l
}

// under tells the slots that lie under an inner node.
func under(slots, node int) []int {
	var l []int
	for slot := range slots {
		if slices.Contains(wayTo(slots, slot), node) {
			l = append(l, slot)
		}
	}
	return l
}

// others tells texts that aren't that top.
func others(top string) []string {
	l := []string{"", "top", top[:31], top + "\x00", top[1:], top + top, leafOf(""), noughts, nodeOf(noughts + noughts)}
	for at := range top {
		l = append(l, turned(top, at, 1<<(at%8)))
	}
	return l
}

// P17.2: slots that there aren't, ahead of all that the disk or the top has.
func TestGetSlots(t *testing.T) {
	for _, slots := range sizes {
		s, top := blank(t, slots)
		hold := func(what string) {
			t.Helper()
			for _, slot := range append([]int{-3, slots, slots + 1, 2 * slots, 17, 20, 99}, ints...) {
				holdGet(t, "P17.2: no such slot, "+what, s, top, slot, "", api.ErrArg)
				holdGet(t, "P17.2: no such slot, "+what, s, "", slot, "", api.ErrArg)
			}
		}
		hold("a disk that works")
		s.Bank.Disk(1).Fail()
		hold("a dead one")
		s.Bank.Cut(0)
		hold("a dead one without power")
	}
}

// P17.2, P17.3: behind one change of one slot that one has its chunk, the others have theirs; the elder top leads nowhere, the new one not ahead of Apply.
func TestGetOneChange(t *testing.T) {
	for _, slots := range sizes {
		for slot := range slots {
			s, was := blank(t, slots)
			c, _ := s.Seal(slot, nonceOf(slot), plainOf(slot))
			l, now, e := holdPrepare(t, "P17.3: one change", s, was, []Change{{slot, c}})
			if e != api.OK || now == was {
				t.Fatalf("P17.3: one change: error %d", e)
			}
			for i := range slots {
				holdGet(t, "P17.2: ahead of Apply", s, was, i, noughts, api.OK)
				holdGet(t, "P17.2: ahead of Apply", s, now, i, "", api.ErrSum)
			}
			if e := s.Apply(l); e != api.OK {
				t.Fatalf("P17.4: Apply: error %d", e)
			}
			for i := range slots {
				want := noughts
				if i == slot {
					want = plainOf(slot)
				}
				holdGet(t, "P17.2: one change", s, now, i, want, api.OK)
				holdGet(t, "P17.2: an elder top", s, was, i, "", api.ErrSum)
			}
			holdBad(t, "P17.4: one change", s, now)
			holdBad(t, "P17.4: an elder top", s, was, all(slots)...)
		}
	}
}

// P17.2: behind changes of all slots at once, and once more one by one, each slot has its chunk.
func TestGetManyChanges(t *testing.T) {
	for _, slots := range sizes {
		s, top, _ := filled(t, slots)
		for slot := range slots {
			holdGet(t, "P17.2: all at once", s, top, slot, plainOf(slot), api.OK)
		}
		for slot := range slots {
			c, _ := s.Seal(slot, nonceOf(100+slot), plainOf(100+slot))
			was := top
			top = do(t, s, top, Change{slot, c})
			for i := range slots {
				want := plainOf(i)
				if i <= slot {
					want = plainOf(100 + i)
				}
				holdGet(t, "P17.2: one by one", s, top, i, want, api.OK)
				holdGet(t, "P17.2: an elder top", s, was, i, "", api.ErrSum)
			}
		}
	}
}

// P17.2: several changes of one slot: it has the last one's chunk; back to none: noughts again.
func TestGetSeveralOfOneSlot(t *testing.T) {
	for _, slots := range sizes {
		s, top := blank(t, slots)
		first := top
		for slot := range slots {
			var l []Change
			for i := range 3 {
				c, _ := s.Seal(slot, nonceOf(10*slot+i), plainOf(10*slot+i))
				l = append(l, Change{slot, c})
			}
			was := top
			top = do(t, s, top, l...)
			holdGet(t, "P17.2: the last one", s, top, slot, plainOf(10*slot+2), api.OK)
			holdBad(t, "P17.4: the last one", s, top)
			top = do(t, s, top, Change{slot, ""})
			holdGet(t, "P17.2: none again", s, top, slot, noughts, api.OK)
			if top != was || top != first {
				t.Fatalf("P17.3: the same cells have another top: %x, %x", top, was)
			}
		}
	}
}

// P17.2: texts that are no top of the disk.
func TestGetTops(t *testing.T) {
	for _, slots := range sizes {
		s, top, cells := filled(t, slots)
		wrong := others(top)
		for node := 2; node < 2*slots; node++ { // what stands below it in the tree is none either
			wrong = append(wrong, digestAt(cells, node))
		}
		wrong = append(wrong, pairAtNode(cells, 1))
		for _, no := range wrong {
			for _, slot := range []int{0, slots / 2, slots - 1} {
				holdGet(t, "P17.2: no top", s, no, slot, "", api.ErrSum)
			}
			holdBad(t, "P17.4: no top", s, no, all(slots)...)
		}
		holdBad(t, "P17.4: the top", s, top)
	}
}

// spoiltPairs tells what a pair may be instead, at each length, and with each half another one.
func spoiltPairs(pair string) []string {
	l := []string{"", pair[:1], pair[:31], pair[:32], pair[:63], pair + "\x00", pair + pair[:32], pair + pair, pair[32:] + pair[:31] + "x", noughts + noughts, long(cellBytes)}
	for _, at := range []int{0, 15, 31, 32, 47, 63} {
		l = append(l, turned(pair, at, 1), turned(pair, at, 0x80))
	}
	if turn := pair[32:] + pair[:32]; turn != pair {
		l = append(l, turn)
	}
	return l
}

// P17.2, P17.3: pairs that were changed, left out, or have another length, at each height: the slots under them aren't had, the others are.
func TestPairsSpoilt(t *testing.T) {
	for _, slots := range sizes {
		s, top, cells := filled(t, slots)
		d := s.Bank.Disk(1)
		for node := 1; node < slots; node++ {
			right := pairAtNode(cells, node)
			wrong := spoiltPairs(right)
			for i := 1; i < slots; i++ {
				if i != node {
					wrong = append(wrong, pairAtNode(cells, i))
				}
			}
			bad := under(slots, node)
			for _, pair := range wrong {
				d.Tamper(firstPair+node, pair)
				what := "P17.2: node " + strconv.Itoa(node) + " has another pair"
				holdBad(t, what, s, top, bad...)
				for slot := range slots {
					if slices.Contains(bad, slot) {
						holdGet(t, what, s, top, slot, "", api.ErrSum)
						holdRefused(t, what, s, top, []Change{{slot, "x"}}, api.ErrSum)
					} else {
						holdGet(t, what, s, top, slot, plainOf(slot), api.OK)
						if _, _, e := holdPrepare(t, what, s, top, []Change{{slot, "x"}}); e != api.OK {
							t.Fatalf("%s: Prepare of slot %d: error %d", what, slot, e)
						}
					}
				}
			}
			d.Tamper(firstPair+node, right)
		}
		holdBad(t, "P17.4: all as it was", s, top)
	}
}

// P17.2: what stands in other cells than those of the slab's pairs and chunks makes no difference.
func TestOtherCells(t *testing.T) {
	for _, slots := range sizes {
		s, top, _ := filled(t, slots)
		d := s.Bank.Disk(1)
		for at := range diskCells {
			if pair, cell := at-firstPair, at-firstCell; pair >= 1 && pair < slots || cell >= 0 && cell < slots {
				continue
			}
			d.Tamper(at, long(at+1))
		}
		for slot := range slots {
			holdGet(t, "P17.2: other cells", s, top, slot, plainOf(slot), api.OK)
		}
		for i := range diskCells {
			s.Bank.Disk(0).Tamper(i, "other disk")
			s.Bank.Disk(2).Tamper(i, "other disk")
		}
		holdBad(t, "P17.4: other cells", s, top)
	}
}

// spoiltCells tells what a cell may be instead: changed at each place, cut at each, longer, none.
func spoiltCells(cell string) []string {
	l := []string{cell + "\x00", cell + cell, long(cellBytes)}
	for at := range cell {
		l = append(l, turned(cell, at, 1<<(at%8)), cell[:at], cell[len(cell)-at:])
	}
	return l
}

// P17.2: cells that were changed, cut, or are those of other slots, disks or days, without a top that has their Leaf: ErrSum, and the others are had.
func TestCellsSpoilt(t *testing.T) {
	for _, slots := range sizes {
		s, top := blank(t, slots)
		_, top, elder := fill(t, s, top, 50)
		_, top, cells := fill(t, s, top, 0)
		d := s.Bank.Disk(1)
		for slot, right := range cells {
			wrong := spoiltCells(right)
			wrong = append(wrong, elder[slot], sealedBy(t, key, 2, slot, nonceOf(slot), plainOf(slot)), sealedBy(t, key, 1, slot, nonceOf(99), plainOf(slot)))
			for i, c := range cells {
				if i != slot {
					wrong = append(wrong, c)
				}
			}
			for _, c := range wrong {
				d.Tamper(firstCell+slot, c)
				holdGet(t, "P17.2: another cell", s, top, slot, "", api.ErrSum)
			}
			holdBad(t, "P17.4: another cell", s, top, slot)
			holdGet(t, "P17.2: beside it", s, top, (slot+1)%slots, plainOf((slot+1)%slots), api.OK)
			d.Tamper(firstCell+slot, right)
			holdGet(t, "P17.2: its own cell", s, top, slot, plainOf(slot), api.OK)
		}
	}
}

// P17.2: an empty cell where the top has another Leaf, and another one where it has the empty one's.
func TestEmptyCells(t *testing.T) {
	for _, slots := range sizes {
		s, top := blank(t, slots)
		c, _ := s.Seal(1, nonceOf(1), noughts)
		s.Bank.Disk(1).Tamper(firstCell+1, c)
		holdGet(t, "P17.2: a chunk that none bound", s, top, 1, "", api.ErrSum)
		s.Bank.Disk(1).Tamper(firstCell+1, noughts)
		holdGet(t, "P17.2: noughts that none bound", s, top, 1, "", api.ErrSum)
		s.Bank.Disk(1).Tamper(firstCell+1, "")
		holdGet(t, "P17.2: empty again", s, top, 1, noughts, api.OK)
		top = do(t, s, top, Change{1, c})
		holdGet(t, "P17.2: sealed noughts", s, top, 1, noughts, api.OK)
		s.Bank.Disk(1).Tamper(firstCell+1, "")
		holdGet(t, "P17.2: no cell", s, top, 1, "", api.ErrSum)
	}
}

// P17.2: cells whose Leaf the top has, and that aren't the slot's chunk: too short, changed, of another slot, disk or key.
func TestBoundCells(t *testing.T) {
	for _, slots := range sizes {
		s, top, cells := filled(t, slots)
		slot := slots - 1
		own := cells[slot]
		want := map[string]api.Errno{
			sealedBy(t, key, 2, slot, nonceOf(5), plainOf(5)):          api.ErrOpen,
			sealedBy(t, key, 0, slot, nonceOf(5), plainOf(5)):          api.ErrOpen,
			sealedBy(t, plainOf(7), 1, slot, nonceOf(5), plainOf(5)):   api.ErrOpen,
			nonceOf(6) + own[nonceBytes:]:                              api.ErrOpen,
			sealedBy(t, key, 1, slot, nonceOf(5), plainOf(5))[1:]:      api.ErrOpen,
			"\x00" + sealedBy(t, key, 1, slot, nonceOf(5), plainOf(5)): api.ErrOpen,
			long(mostBytes): api.ErrOpen,
			noughts:         api.ErrOpen,
		}
		if slot != 1 {
			want[sealedBy(t, key, slot, 1, nonceOf(5), plainOf(5))] = api.ErrOpen // disk and slot are no sum, and have their order
		}
		for i, c := range cells {
			if i != slot {
				want[c] = api.ErrOpen
			}
		}
		for at := range own {
			want[turned(own, at, 1<<(at%8))] = api.ErrOpen
			want[own+own[:at+1]] = api.ErrOpen
			if at > 0 && at < nonceBytes+sealedBytes {
				want[own[:at]] = api.ErrShort
			} else if at > 0 {
				want[own[:at]] = api.ErrOpen
			}
		}
		for c, e := range want {
			top = do(t, s, top, Change{slot, c})
			holdGet(t, "P17.2: a cell of "+strconv.Itoa(len(c))+" bytes", s, top, slot, "", e)
			holdBad(t, "P17.4: a cell of "+strconv.Itoa(len(c))+" bytes", s, top, slot)
		}
		top = do(t, s, top, Change{slot, own})
		holdGet(t, "P17.2: its own again", s, top, slot, plainOf(slot), api.OK)
	}
}

// P17.2: a slab with another key, of another disk that has the same cells, or with another number of slots, has none of the chunks.
func TestOtherSlabs(t *testing.T) {
	s, top, cells := filled(t, 8)
	other := s
	other.Key = plainOf(0)
	for slot := range 8 {
		holdGet(t, "P17.2: another key", other, top, slot, "", api.ErrOpen)
	}
	holdBad(t, "P17.4: another key", other, top, all(8)...)
	for _, disk := range []int{0, 2} {
		other = s
		other.Disk = disk
		other.Bank.Disk(disk).Restore(s.Bank.Disk(1).Image())
		for slot := range 8 {
			holdGet(t, "P17.2: another disk", other, top, slot, "", api.ErrOpen)
		}
		top = do(t, other, top, Change{3, ""})
		holdGet(t, "P17.2: another disk", other, top, 3, noughts, api.OK)
		top = digestAt(cells, 1)
		holdGet(t, "P17.2: its own disk", s, top, 3, plainOf(3), api.OK)
	}
	other = s
	other.Slots = 4 // the way to its slots is as that to the inner nodes 4 to 7, which aren't the cells' leaves
	for slot := range 4 {
		holdGet(t, "P17.2: fewer slots", other, top, slot, "", api.ErrSum)
	}
	other.Slots = 16
	for slot := range 16 {
		holdGet(t, "P17.2: more slots", other, top, slot, "", api.ErrSum)
	}
}

// P17.2: what is opened is told, whatever its length.
func TestOtherLengths(t *testing.T) {
	for _, slots := range sizes {
		s, top := blank(t, slots)
		for _, n := range []int{0, 1, 11, 12, 16, 31, 32, 33, 64, mostBytes - 28} {
			c := sealedBy(t, key, 1, 1, nonceOf(n), long(n))
			top = do(t, s, top, Change{1, c})
			holdGet(t, "P17.2: "+strconv.Itoa(n)+" bytes", s, top, 1, long(n), api.OK)
		}
		for _, n := range []int{mostBytes - 27, cellBytes - 28} { // cells that could not be logged, and that somebody laid there
			cells := make([]string, slots)
			cells[0] = sealedBy(t, key, 1, 0, nonceOf(n), long(n))
			top = lay(t, s, cells)
			holdGet(t, "P17.2: "+strconv.Itoa(n)+" bytes", s, top, 0, long(n), api.OK)
			holdBad(t, "P17.4: "+strconv.Itoa(n)+" bytes", s, top)
		}
	}
}

// P17.2: a dead disk, and one without power.
func TestGetNoDisk(t *testing.T) {
	for _, slots := range sizes {
		s, top, _ := filled(t, slots)
		hold := func(what string, e api.Errno) {
			t.Helper()
			for _, at := range []string{top, "", leafOf("")} {
				for slot := range slots {
					holdGet(t, "P17.2: "+what, s, at, slot, "", e)
				}
				holdBad(t, "P17.4: "+what, s, at, all(slots)...)
			}
		}
		s.Bank.Cut(1)
		holdGet(t, "P17.2: one step is left", s, top, 0, plainOf(0), api.OK)
		s.Bank.Cut(0)
		hold("dark", api.ErrPower)
		s.Bank.Crash()
		holdBad(t, "P17.4: power again", s, top)
		s.Bank.Disk(0).Fail()
		s.Bank.Disk(2).Fail()
		holdBad(t, "P17.4: other disks are dead", s, top)
		s.Bank.Disk(1).Fail()
		hold("dead", api.ErrDisk)
		s.Bank.Cut(0)
		hold("dead and dark", api.ErrPower)
	}
}

// P17.2: disks of fewer cells: all pairs are read ahead of their being followed, and these are followed ahead of the cell's being read.
func TestSmallDisks(t *testing.T) {
	for _, slots := range sizes {
		full, top, _ := filled(t, slots)
		image := full.Bank.Disk(1).Image()
		for cells := 98; cells <= diskCells; cells++ {
			s := Slab{Bank: bank.New(2, cells), Disk: 1, Slots: slots, Key: key}
			s.Bank.Disk(1).Restore(image[:cells])
			for slot := range slots {
				way := wayTo(slots, slot)
				switch {
				case firstPair+way[len(way)-1] >= cells:
					holdGet(t, "P17.2: no cell for a pair", s, top, slot, "", api.ErrArg)
					holdGet(t, "P17.2: no cell for a pair, and no top", s, "", slot, "", api.ErrArg)
					holdRefused(t, "P17.3: no cell for a pair", s, top, []Change{{slot, "x"}}, api.ErrArg)
					holdRefused(t, "P17.3: no cell for a pair, and no top", s, "", []Change{{slot, "x"}}, api.ErrArg)
				case firstCell+slot >= cells:
					holdGet(t, "P17.2: no cell for the chunk", s, top, slot, "", api.ErrArg)
					holdGet(t, "P17.2: no cell for the chunk, and no top", s, "", slot, "", api.ErrSum)
					if _, _, e := holdPrepare(t, "P17.3: no cell for the chunk", s, top, []Change{{slot, "x"}}); e != api.OK {
						t.Fatalf("P17.3: no cell for the chunk: error %d", e)
					}
				default:
					holdGet(t, "P17.2: a cell for all", s, top, slot, plainOf(slot), api.OK)
				}
			}
		}
	}
}

// P17.2: what waits on the disk is read as what lasts, and what was lost with the power isn't.
func TestGetWaiting(t *testing.T) {
	s, was := blank(t, 4)
	c, _ := s.Seal(2, nonceOf(1), plainOf(1))
	l, now, _ := s.Prepare(was, []Change{{2, c}})
	for _, w := range l {
		s.Bank.Write(1, w.At, w.Cell)
	}
	holdGet(t, "P17.2: it waits", s, now, 2, plainOf(1), api.OK)
	holdGet(t, "P17.2: it waits", s, was, 2, "", api.ErrSum)
	s.Bank.Crash()
	holdGet(t, "P17.2: it is lost", s, was, 2, noughts, api.OK)
	holdGet(t, "P17.2: it is lost", s, now, 2, "", api.ErrSum)
}

// P17.4: Bad with each set of slots that are bad, rising.
func TestBadSets(t *testing.T) {
	for _, slots := range sizes {
		s, top, cells := filled(t, slots)
		sets := 1 << slots
		for set := 0; set < sets; set += 1 + slots/16*1021 {
			var want []int
			for slot, c := range cells {
				if set>>slot&1 == 1 {
					c = turned(c, slot, 1)
					want = append(want, slot)
				}
				s.Bank.Disk(1).Tamper(firstCell+slot, c)
			}
			holdBad(t, "P17.4: some", s, top, want...)
		}
		for _, c := range []string{"", "few", long(40)} {
			for slot := range slots {
				s.Bank.Disk(1).Tamper(firstCell+slot, c)
			}
			holdBad(t, "P17.4: all", s, top, all(slots)...)
		}
	}
}
