package commit_test

import (
	"slices"
	"strings"
	"testing"

	"cofferdam/anchor"
	"cofferdam/api"
	"cofferdam/bank"
	"cofferdam/commit"
	"cofferdam/disk"
	"cofferdam/intent"
	"cofferdam/sha"
	"cofferdam/super"
	"cofferdam/tree"
)

// holdFormat holds that Format answers an error and has left all as it was.
func holdFormat(t *testing.T, what string, b *bank.Bank, a *anchor.Anchor, key string, data, slots int, want api.Errno) {
	t.Helper()
	was := shotOf(b, a)
	if e := commit.Format(b, a, key, data, slots); e != want {
		t.Errorf("P20.1: %s: error %d, want %d", what, e, want)
	}
	if diff := shotOf(b, a).differs(was); diff != "" {
		t.Errorf("P20.1: %s: %s", what, diff)
	}
}

// used tells an anchor that has been set.
func used(t *testing.T, count uint64) *anchor.Anchor {
	t.Helper()
	a := anchor.New()
	if e := a.Set(count, someText(32, 1)); e != api.OK {
		t.Fatalf("layer 11: error %d", e)
	}
	return a
}

// P20.1: nil banks and anchors are ErrNil, ahead of all other errors.
func TestFormatNil(t *testing.T) {
	good, a := bank.New(4, diskCells), anchor.New()
	for _, x := range []struct {
		key         string
		data, slots int
	}{{key, 2, 4}, {"", 2, 4}, {key, 1, 4}, {key, 2, 3}, {"short", -1, -1}} {
		holdFormat(t, "no bank", nil, a, x.key, x.data, x.slots, api.ErrNil)
		holdFormat(t, "no bank, an anchor that was set", nil, used(t, 1), x.key, x.data, x.slots, api.ErrNil)
		holdFormat(t, "no anchor", good, nil, x.key, x.data, x.slots, api.ErrNil)
		holdFormat(t, "neither", nil, nil, x.key, x.data, x.slots, api.ErrNil)
		holdFormat(t, "no anchor, small disks", bank.New(1, 1), nil, x.key, x.data, x.slots, api.ErrNil)
	}
}

// P20.1: other keys, layouts, too few disks and too small ones are ErrArg, ahead of ErrThere.
func TestFormatArgs(t *testing.T) {
	for _, a := range []*anchor.Anchor{anchor.New(), used(t, 1), used(t, 1<<64-1)} {
		for _, n := range []int{0, 1, 16, 31, 33, 64, 256 + 32, 1 << 16} {
			holdFormat(t, "a key of another length", bank.New(12, diskCells), a, someText(n, n), 2, 4, api.ErrArg)
		}
		for _, data := range append(slices.Clone(ints), 0, 1, most+1, 10, 11, 16, 32) {
			for _, slots := range append(slices.Clone(sizes), 0, 3) {
				holdFormat(t, "another number of data chunks", bank.New(12, diskCells), a, key, data, slots, api.ErrArg)
			}
		}
		for _, slots := range append(slices.Clone(ints), 0, 1, 3, 5, 6, 7, 9, 12, 15, 17, 32, 64) {
			holdFormat(t, "another number of slots", bank.New(12, diskCells), a, key, 2, slots, api.ErrArg)
		}
		for data := least; data <= most; data++ {
			for disks := 1; disks < data+more; disks++ {
				holdFormat(t, "too few disks", bank.New(disks, diskCells), a, key, data, 4, api.ErrArg)
			}
		}
		for _, cells := range []int{1, firstLog, firstPair, firstCell, diskCells - 1} {
			holdFormat(t, "too small disks", bank.New(4, cells), a, key, 2, 4, api.ErrArg)
		}
		holdFormat(t, "a bank without disks", new(bank.Bank), a, key, 2, 4, api.ErrArg)
	}
	b := bank.New(5, diskCells)
	*b.Disk(4) = *disk.New(diskCells - 1)
	holdFormat(t, "the last disk, a spare, too small", b, anchor.New(), key, 2, 4, api.ErrArg)
}

// P20.1: an anchor that has been set is ErrThere, power or none.
func TestFormatThere(t *testing.T) {
	for _, count := range []uint64{1, 2, 256, 1 << 32, 1 << 63, 1<<64 - 1} {
		holdFormat(t, "an anchor that was set", bank.New(4, diskCells), used(t, count), key, 2, 4, api.ErrThere)
		b := bank.New(4, diskCells)
		b.Cut(0)
		b.Disk(0).Fail()
		holdFormat(t, "an anchor that was set, no power", b, used(t, count), key, 2, 4, api.ErrThere)
	}
	w := opened(t, 4, 2, 4)
	w.refused("P20.1: Format of a volume", func() { w.format("P20.1: Format of a volume", 2, 4, api.ErrThere) })
}

// wantRecord tells the record of a new volume, written out, and the pairs of a seat's disk.
func wantRecord(t *testing.T, disks, data, slots int) (super.Super, []string) {
	t.Helper()
	pairs, top, e := tree.Build(slices.Repeat([]string{sha.Leaf("")}, slots))
	if e != api.OK {
		t.Fatalf("layer 12: error %d", e)
	}
	r := super.Super{Count: 1, Epoch: 1, Data: data, Slots: slots}
	for i := range disks {
		m := super.Member{State: super.Spare, Top: noughts, Log: intent.Empty()}
		if i < data+more {
			m.State, m.Top = super.Active, top
			r.Seats = append(r.Seats, i)
		}
		r.Members = append(r.Members, m)
	}
	return r, pairs
}

// P20.1: of each number of disks, data chunks and slots that there may be: what stands on the disks, what the anchor has, how many steps were made.
func TestFormat(t *testing.T) {
	for data := least; data <= most; data++ {
		for disks := data + more; disks <= 12; disks++ {
			for _, slots := range sizes {
				w := newTwins(t, disks)
				w.format("P20.1", data, slots, api.OK)
				r, pairs := wantRecord(t, disks, data, slots)
				text, _ := super.Put(r)
				want := shot{steps: (data+more)*2*slots + 2*disks + 1, count: 1, digest: super.Digest(text)}
				for i := range disks {
					image := make([]string, diskCells)
					image[1] = text
					if i < data+more {
						copy(image[firstPair:], pairs)
					}
					want.images, want.waiting, want.dead = append(want.images, image), append(want.waiting, 0), append(want.dead, false)
				}
				if diff := shotOf(w.b, w.a).differs(want); diff != "" {
					t.Fatalf("P20.1: %d disks, %d data chunks, %d slots: %s", disks, data, slots, diff)
				}
			}
		}
	}
}

// P20.1: what stood on the disks ahead of Format makes no difference, and cells that aren't a volume's stay as they are.
func TestFormatOver(t *testing.T) {
	w := newTwins(t, 5)
	w.both(func(b *bank.Bank) {
		for i := range 5 {
			image := make([]string, diskCells)
			for at := range image {
				image[at] = someText(70, at+diskCells*i)
			}
			b.Disk(i).Restore(image)
		}
	})
	w.format("P20.1: over something", 2, 4, api.OK)
	w.open("P20.2: over something", api.OK)
	for n := range 4 {
		w.holdStripe("P20.1: over something", n, 0)
	}
	for i := range 5 {
		for _, at := range []int{firstLog, firstPair - 1, firstPair, firstPair + 4, firstCell + 4, diskCells - 1} {
			if c, _ := w.b.Read(i, at); c != someText(70, at+diskCells*i) {
				t.Errorf("P20.1: cell %d of disk %d was written to", at, i)
			}
		}
	}
}

// P20.1: the power fails behind each number of steps: ErrPower, the anchor isn't set, and Format may be done again.
func TestFormatDark(t *testing.T) {
	for _, slots := range []int{2, 8} {
		enough := 4*2*slots + 2*5 + 1
		for steps := range enough + 3 {
			w := newTwins(t, 5)
			w.both(func(b *bank.Bank) { b.Cut(steps) })
			if steps >= enough {
				w.format("P20.1: enough steps", 2, slots, api.OK)
				continue
			}
			w.format("P20.1: the power fails", 2, slots, api.ErrPower)
			if count, digest := w.a.Get(); count != 0 || digest != "" {
				t.Fatalf("P20.1: %d steps: the anchor has %d", steps, count)
			}
			w.both(func(b *bank.Bank) { b.Crash([]bool{true}, []bool{false, true}, nil, []bool{true, false, true}) })
			w.open("P20.2: a Format that wasn't done", api.ErrNone)
			w.format("P20.1: again", 2, slots, api.OK)
			w.open("P20.2: again", api.OK)
			for n := range slots {
				w.holdStripe("P20.1: again", n, 0)
			}
		}
	}
}

// P20.1: a dead disk of a seat is ErrDisk, and nothing is published; a dead one of none is passed over.
func TestFormatDead(t *testing.T) {
	for data := least; data <= most; data++ {
		for disk := range 12 {
			w := newTwins(t, 12)
			w.kill(disk)
			if disk >= data+more {
				w.format("P20.1: a dead spare", data, 4, api.OK)
				w.open("P20.2: a dead spare", api.OK)
				w.holdStates("a dead spare", strings.Repeat("1", data+more)+strings.Repeat("0", 12-data-more))
				continue
			}
			w.format("P20.1: a dead disk", data, 4, api.ErrDisk)
			count, _ := w.a.Get()
			if c, _ := w.b.Read((disk+1)%12, 1); count != 0 || c != "" || w.b.Steps() != 8*disk+1 {
				t.Errorf("P20.1: disk %d is dead: count %d, cell %q, %d steps", disk, count, c, w.b.Steps())
			}
		}
	}
	w := newTwins(t, 6)
	w.kill(1, 2)
	w.both(func(b *bank.Bank) { b.Cut(8) })
	w.format("P20.1: a dead disk behind the power's end", 2, 4, api.ErrPower)
}
