package slab

import (
	"fmt"
	"slices"
	"strconv"
	"testing"

	"cofferdam/api"
	"cofferdam/intent"
	"cofferdam/sha"
)

// places tells where writes go, in their order.
func places(l []intent.Write) []int {
	var at []int
	for _, w := range l {
		at = append(at, w.At)
	}
	return at
}

// P17.3: slots that there aren't, alone and among others.
func TestPrepareSlots(t *testing.T) {
	for _, slots := range sizes {
		s, top := blank(t, slots)
		for _, slot := range append([]int{-3, slots, slots + 1, 2 * slots, 17, 20, 99}, ints...) {
			no, yes := Change{slot, "x"}, Change{1, "y"}
			for _, l := range [][]Change{{no}, {no, yes}, {yes, no}, {yes, no, yes}, {no, no}} {
				holdRefused(t, "P17.3: slot "+strconv.Itoa(slot), s, top, l, api.ErrArg)
			}
		}
	}
}

// P17.3: cells of each length about the greatest, and far behind it.
func TestPrepareLengths(t *testing.T) {
	for _, slots := range sizes {
		s, top := blank(t, slots)
		for _, n := range []int{0, 1, 11, 12, 28, 60, 2030, 2031, 2032, 2033, 2034, 2039, 2040, 2047, 2048, 2049, 4096, 1 << 16, 1<<16 + 32, 1<<20 + 5} {
			own, other := Change{1, long(n)}, Change{0, "y"}
			for _, l := range [][]Change{{own}, {own, other}, {other, own}, {other, own, other}, {own, own}, {own, {1, "behind"}}} {
				what := "P17.3: a cell of " + strconv.Itoa(n) + " bytes"
				if n > mostBytes {
					holdRefused(t, what, s, top, l, api.ErrLong)
				} else if _, _, e := holdPrepare(t, what, s, top, l); e != api.OK {
					t.Fatalf("%s: error %d", what, e)
				}
			}
		}
		holdGet(t, "P17.2: nothing was done", s, top, 1, noughts, api.OK)
		now := do(t, s, top, Change{1, long(mostBytes)})
		holdGet(t, "P17.2: the longest", s, now, 1, "", api.ErrOpen)
	}
}

// P17.3: of several errors it is the first change that counts; of one change, its slot; and both ahead of all that the disk has, also for changes ahead of it.
func TestPrepareSeveral(t *testing.T) {
	s, top := blank(t, 4)
	none, tooLong, both := Change{4, "x"}, Change{0, long(mostBytes + 1)}, Change{-1, long(mostBytes + 1)}
	right := Change{2, "y"}
	hold := func(what string, top string) {
		t.Helper()
		for _, x := range []struct {
			l []Change
			e api.Errno
		}{
			{[]Change{both}, api.ErrArg},
			{[]Change{none, tooLong}, api.ErrArg},
			{[]Change{tooLong, none}, api.ErrLong},
			{[]Change{both, tooLong}, api.ErrArg},
			{[]Change{tooLong, both}, api.ErrLong},
			{[]Change{right, none, tooLong}, api.ErrArg},
			{[]Change{right, tooLong, none}, api.ErrLong},
			{[]Change{right, right, right, none}, api.ErrArg},
			{[]Change{right, right, right, tooLong}, api.ErrLong},
		} {
			holdRefused(t, "P17.3: "+what, s, top, x.l, x.e)
		}
		for i := range 6 {
			for j := range 6 {
				l := slices.Repeat([]Change{right}, 6)
				l[i] = none
				l[j] = tooLong
				want := api.ErrArg
				if j <= i {
					want = api.ErrLong
				}
				holdRefused(t, "P17.3: "+what, s, top, l, want)
			}
		}
	}
	hold("a disk that works", top)
	hold("no top", "no top")
	s.Bank.Disk(1).Tamper(firstPair+1, "")
	hold("a pair is left out", top)
	s.Bank.Disk(1).Fail()
	hold("a dead disk", top)
	s.Bank.Cut(0)
	hold("a dead disk without power", "")
}

// P17.3: no change at all: nothing to write, and the top that was handed in, whatever it is and whatever the disk has.
func TestPrepareNone(t *testing.T) {
	for _, slots := range sizes {
		s, top := blank(t, slots)
		hold := func(what string) {
			t.Helper()
			for _, at := range append(others(top), top, long(1<<16)) {
				for _, l := range [][]Change{nil, {}} {
					if writes, now, e := holdPrepare(t, "P17.3: "+what, s, at, l); len(writes) > 0 || now != at || e != api.OK {
						t.Fatalf("P17.3: %s: no change: %s, %x, error %d", what, brief(writes), now, e)
					}
				}
			}
		}
		hold("a disk that works")
		s.Bank.Disk(1).Restore(nil)
		hold("an empty disk")
		s.Bank.Disk(1).Fail()
		hold("a dead disk")
		s.Bank.Cut(0)
		hold("a dead disk without power")
	}
}

// holdTree holds that writes make of a disk with these cells the tree of all cells, behind changes, and no more than that.
func holdTree(t *testing.T, what string, s Slab, top string, cells []string, l []Change) {
	t.Helper()
	writes, now, e := holdPrepare(t, what, s, top, l)
	after := slices.Clone(cells)
	var nodes, slots []int
	for _, c := range l {
		after[c.Slot] = c.Cell
		slots = append(slots, c.Slot)
		nodes = append(nodes, wayTo(s.Slots, c.Slot)...)
	}
	slices.Sort(nodes)
	slices.Sort(slots)
	var want []intent.Write
	for _, node := range slices.Compact(nodes) {
		want = append(want, intent.Write{At: 100 + node, Cell: pairAtNode(after, node)})
	}
	for _, slot := range slices.Compact(slots) {
		want = append(want, intent.Write{At: 120 + slot, Cell: after[slot]})
	}
	if e != api.OK || !slices.Equal(writes, want) || len(l) > 0 && now != digestAt(after, 1) {
		t.Fatalf("%s: %s, %x, error %d; want %s", what, brief(writes), now, e, brief(want))
	}
}

// P17.3: each set of slots that are changed, rising and falling: the writes' places, their bytes, the top.
func TestPrepareSets(t *testing.T) {
	for _, slots := range sizes {
		s, top, cells := filled(t, slots)
		for set := 1; set < 1<<slots; set += 1 + slots/16*509 {
			var l []Change
			for slot := range slots {
				if set>>slot&1 == 1 {
					l = append(l, Change{slot, long(20 + slot)})
				}
			}
			holdTree(t, "P17.3: rising", s, top, cells, l)
			slices.Reverse(l)
			holdTree(t, "P17.3: falling", s, top, cells, l)
		}
	}
}

// P17.3: the places, written out.
func TestPreparePlaces(t *testing.T) {
	for _, x := range []struct {
		slots int
		l     []Change
		want  string
	}{
		{2, []Change{{1, "a"}}, "[101 121]"},
		{2, []Change{{1, "a"}, {0, "b"}}, "[101 120 121]"},
		{4, []Change{{0, "a"}}, "[101 102 120]"},
		{4, []Change{{3, "a"}, {2, "b"}, {3, "c"}}, "[101 103 122 123]"},
		{8, []Change{{5, "a"}}, "[101 103 106 125]"},
		{8, []Change{{5, "a"}, {0, "b"}}, "[101 102 103 104 106 120 125]"},
		{16, []Change{{15, "a"}}, "[101 103 107 115 135]"},
		{16, []Change{{15, "a"}, {0, ""}, {14, "b"}, {7, "c"}}, "[101 102 103 104 105 107 108 111 115 120 127 134 135]"},
	} {
		s, top := blank(t, x.slots)
		l, _, e := s.Prepare(top, x.l)
		if got := fmt.Sprint(places(l)); got != x.want || e != api.OK {
			t.Errorf("P17.3: %d slots, %v: places %s, error %d; want %s", x.slots, x.l, got, e, x.want)
		}
	}
}

// P17.3: a change to the very cell that there is: its pairs and it are written as all others, and the top is the same.
func TestPrepareSame(t *testing.T) {
	for _, slots := range sizes {
		s, top, cells := filled(t, slots)
		for slot, c := range cells {
			holdTree(t, "P17.3: the same cell", s, top, cells, []Change{{slot, c}})
			holdTree(t, "P17.3: there and back", s, top, cells, []Change{{slot, "x"}, {slot, c}})
			l, now, _ := s.Prepare(top, []Change{{slot, "x"}, {slot, c}})
			if now != top || len(l) != len(wayTo(slots, slot))+1 {
				t.Fatalf("P17.3: there and back: %s, another top: %t", brief(l), now != top)
			}
		}
	}
}

// P17.3: several changes of one slot: its last cell, and the top of that; in whatever order those of others come between.
func TestPrepareOneSlot(t *testing.T) {
	for _, slots := range sizes {
		s, top, cells := filled(t, slots)
		for slot := range slots {
			near, far := slot^1, slots-1-slot
			for _, l := range [][]Change{
				{{slot, "first"}, {slot, "second"}},
				{{slot, "second"}, {slot, "first"}},
				{{slot, "first"}, {slot, ""}},
				{{slot, "a"}, {near, "b"}, {slot, "c"}},
				{{slot, "a"}, {far, "b"}, {slot, "c"}, {far, "d"}, {near, "e"}, {slot, "f"}},
				{{near, "a"}, {slot, "a"}, {near, "a"}},
				{{slot, long(mostBytes)}, {slot, "short"}},
			} {
				holdTree(t, "P17.3: one slot", s, top, cells, l)
			}
		}
		var many []Change
		for i := range 200 {
			many = append(many, Change{i * i % slots, long(i)})
		}
		holdTree(t, "P17.3: many changes", s, top, cells, many)
	}
}

// P17.3: a top that doesn't lead there.
func TestPrepareTops(t *testing.T) {
	for _, slots := range sizes {
		s, was := blank(t, slots)
		_, top, cells := fill(t, s, was, 0)
		wrong := append(others(top), was)
		for node := 2; node < 2*slots; node++ {
			wrong = append(wrong, digestAt(cells, node))
		}
		for _, no := range wrong {
			for _, slot := range []int{0, slots - 1} {
				holdRefused(t, "P17.3: no top", s, no, []Change{{slot, "x"}}, api.ErrSum)
				holdRefused(t, "P17.3: no top", s, no, []Change{{slot, cells[slot]}, {0, ""}}, api.ErrSum)
			}
		}
	}
}

// P17.3: a pair that doesn't lead there for a later change alone: its error, and nothing beside it; a pair off all ways makes no difference.
func TestPrepareLater(t *testing.T) {
	for _, slots := range sizes[1:] {
		s, top, cells := filled(t, slots)
		for node := 2; node < slots; node++ {
			s.Bank.Disk(1).Tamper(firstPair+node, turned(pairAtNode(cells, node), 40, 1))
			bad := under(slots, node)
			for slot := range slots {
				if slices.Contains(bad, slot) {
					continue
				}
				first := Change{slot, "x"}
				if _, _, e := holdPrepare(t, "P17.3: off the way", s, top, []Change{first, first}); e != api.OK {
					t.Fatalf("P17.3: off the way: error %d", e)
				}
				holdRefused(t, "P17.3: a later change", s, top, []Change{first, {bad[0], "y"}}, api.ErrSum)
				holdRefused(t, "P17.3: a later change", s, top, []Change{first, first, {bad[len(bad)-1], "y"}, first}, api.ErrSum)
				break
			}
			s.Bank.Disk(1).Tamper(firstPair+node, pairAtNode(cells, node))
		}
	}
}

// P17.3: the cells of the slots aren't asked: a bad one is mended by a change, also its neighbours'.
func TestPrepareMends(t *testing.T) {
	for _, slots := range sizes {
		s, top, cells := filled(t, slots)
		for slot := range slots {
			s.Bank.Disk(1).Tamper(firstCell+slot, "spoilt")
		}
		for slot := range slots {
			holdBad(t, "P17.4: not yet mended", s, top, all(slots)[slot:]...)
			top = do(t, s, top, Change{slot, cells[slot]})
		}
		holdBad(t, "P17.4: mended", s, top)
	}
}

// P17.3: a dead disk, and one without power.
func TestPrepareNoDisk(t *testing.T) {
	s, top, _ := filled(t, 8)
	l := []Change{{3, "x"}, {7, "y"}}
	s.Bank.Cut(0)
	holdRefused(t, "P17.3: dark", s, top, l, api.ErrPower)
	holdRefused(t, "P17.3: dark, no top", s, "", l, api.ErrPower)
	s.Bank.Cut(1)
	if _, _, e := holdPrepare(t, "P17.3: one step is left", s, top, l); e != api.OK {
		t.Errorf("P17.3: one step is left: error %d", e)
	}
	s.Bank.Crash()
	s.Bank.Disk(1).Fail()
	holdRefused(t, "P17.3: dead", s, top, l, api.ErrDisk)
	holdRefused(t, "P17.3: dead, no top", s, "", l, api.ErrDisk)
	s.Bank.Cut(0)
	holdRefused(t, "P17.3: dead and dark", s, top, l, api.ErrPower)
}

// P17.3: nothing is kept of what was prepared: the next call begins with the disk's pairs.
func TestPrepareKeepsNothing(t *testing.T) {
	s, top, cells := filled(t, 8)
	_, one, _ := s.Prepare(top, []Change{{5, "x"}})
	holdRefused(t, "P17.3: a top that was but prepared", s, one, []Change{{6, "y"}}, api.ErrSum)
	holdTree(t, "P17.3: from the disk's own", s, top, cells, []Change{{6, "y"}})
	holdGet(t, "P17.2: nothing was written", s, top, 5, plainOf(5), api.OK)
}

// P17.3: what is prepared may be logged, also where all slots have the longest cells (layer 15).
func TestPrepareFitsLog(t *testing.T) {
	for _, slots := range sizes {
		s, top, _ := filled(t, slots)
		var l []Change
		for slot := range slots {
			l = append(l, Change{slot, long(mostBytes)})
		}
		writes, _, e := s.Prepare(top, l)
		if _, _, f := intent.Put(writes); e != api.OK || f != api.OK || len(writes) != 2*slots-1 {
			t.Errorf("P17.3: %d writes, error %d; of the log: %d", len(writes), e, f)
		}
	}
}

// Rule 4: the answers share no memory with one another or with what was handed in.
func TestPrepareOwnMemory(t *testing.T) {
	s, top, _ := filled(t, 4)
	l := []Change{{1, "x"}, {2, "y"}}
	one, first, _ := s.Prepare(top, l)
	two, second, _ := s.Prepare(top, l)
	was := slices.Clone(two)
	spoil(one)
	clear(l)
	if !slices.Equal(two, was) || first != second {
		t.Error("rule 4: what was answered has become another")
	}
	one, _, _ = s.Blank()
	two, _, _ = s.Blank()
	was = slices.Clone(two)
	spoil(one)
	if !slices.Equal(two, was) {
		t.Error("rule 4: what was answered has become another")
	}
	for _, w := range two[len(two):cap(two)] {
		if w != (intent.Write{}) {
			t.Errorf("rule 4: behind the writes lies %#v", w)
		}
	}
}

// P17.4: Blank for each number of slots: each pair by its height, each cell, the order, the top.
func TestBlankWrites(t *testing.T) {
	for height, slots := range sizes {
		digests := []string{leafOf("")} // by how high a node is
		for range height + 1 {
			last := digests[len(digests)-1]
			digests = append(digests, nodeOf(last+last))
		}
		var want []intent.Write
		for node, level := 1, height; node < slots; node++ {
			if node == 1<<(height-level+1) {
				level--
			}
			want = append(want, intent.Write{At: 100 + node, Cell: digests[level] + digests[level]})
		}
		for slot := range slots {
			want = append(want, intent.Write{At: 120 + slot})
		}
		s, _, _ := filled(t, slots)
		for _, world := range []string{"as it is", "dark", "dead", "a small disk"} {
			switch world {
			case "dark":
				s.Bank.Cut(0)
			case "dead":
				s.Bank.Disk(1).Fail()
			case "a small disk":
				s.Bank = bankOf(3)
			}
			quiet(t, "P17.4: Blank", s.Bank, func() {
				for range 2 {
					l, top, e := s.Blank()
					if e != api.OK || top != digests[height+1] || !slices.Equal(l, want) {
						t.Fatalf("P17.4: Blank of %d, %s: %s, %x, error %d; want %s", slots, world, brief(l), top, e, brief(want))
					}
					spoil(l)
				}
			})
		}
	}
}

// P17.4: Blank's tops by another program, and that neither the disk nor the key makes a difference.
func TestBlankTops(t *testing.T) {
	want := map[int]string{
		2:  "fe43d66afa4a9a5c4f9c9da89f4ffb52635c8f342e7ffb731d68e36c5982072a",
		4:  "deb82e155954d6be14592c66ccf7a1ece193eeebcdabaf747b91f44519f09f47",
		8:  "2960044c62f2354e945e8d78fdd220a05f2c0879f24df6f11ef5cc26b5270a0e",
		16: "4cfabc48c6898a30b1b5d12dda8e09a96e9ea17e80f4b2a050b8a8b4803fbd43",
	}
	b := bankOf(diskCells)
	for _, slots := range sizes {
		for disk := range b.Size() {
			for _, key := range []string{key, plainOf(1)} {
				s := Slab{Bank: b, Disk: disk, Slots: slots, Key: key}
				if _, top, e := s.Blank(); fmt.Sprintf("%x", top) != want[slots] || e != api.OK {
					t.Errorf("P17.4: the top of %d empty cells is %x, error %d", slots, top, e)
				}
			}
		}
	}
	if sha.Leaf("") != leafOf("") {
		t.Error("the measure is wrong: layer 5 has another Leaf")
	}
}

// P17.4: Blank over chunks that there were: nothing of them is told any more, and the elder top leads nowhere.
func TestBlankOver(t *testing.T) {
	for _, slots := range sizes {
		s, was, _ := filled(t, slots)
		l, top, _ := s.Blank()
		if e := s.Apply(l); e != api.OK {
			t.Fatalf("P17.4: Apply: error %d", e)
		}
		for slot := range slots {
			holdGet(t, "P17.2: blank again", s, top, slot, noughts, api.OK)
			holdGet(t, "P17.2: the elder top", s, was, slot, "", api.ErrSum)
		}
	}
}
