package volume_test

import (
	"slices"
	"strconv"
	"testing"

	"cofferdam/api"
	"cofferdam/bank"
)

// P21.2: of volumes of all sizes each block is read and written, the first and the last one too; the numbers below, above and far off are ErrArg, also with texts that are no block, and change nothing.
func TestBlockNumbers(t *testing.T) {
	for data := least; data <= most; data++ {
		for _, slots := range sizes {
			w := mounted(t, data+more, data, slots)
			last := data*slots - 1
			for _, n := range []int{0, last} {
				w.hold("as it was made", n, noughts)
				w.write("the ends", n, blockOf(n), api.OK)
				w.hold("the ends", n, blockOf(n))
			}
			w.holdPending("the ends", 2)
			w.refused("no such block", func() {
				for _, n := range append(slices.Clone(ints), last+1, last+2, (data+more)*slots-1, (data+more)*slots) {
					if n >= 0 && n <= last {
						continue
					}
					w.holdError("no such block", n, api.ErrArg)
					w.write("no such block", n, noughts, api.ErrArg)
					w.write("no such block", n, blockOf(9), api.ErrArg)
					w.write("no such block, and no bytes of one", n, "", api.ErrArg)
					w.write("no such block, and no bytes of one", n, someText(33, 1), api.ErrArg)
				}
			})
			w.sync("both ends", api.OK)
			w.hold("the ends", 0, blockOf(0))
			w.hold("the ends", last, blockOf(last))
			w.hold("beside the ends", 1, noughts)
		}
	}
}

// P21.2: texts of other lengths are ErrShape; the block is as it was, whether it waits or lasts.
func TestWriteShape(t *testing.T) {
	w := filled(t, 5, 2, 4)
	w.write("Write", 3, blockOf(30), api.OK)
	for _, n := range []int{0, 1, 2, 16, 30, 31, 33, 34, 48, 63, 64, 256, 256 + 32, 1<<16 - 1, 1 << 16, 1<<16 + 32} {
		w.refused("no block", func() {
			for _, block := range []int{0, 3, 7} {
				w.write("no block", block, someText(n, n), api.ErrShape)
			}
		})
		w.holdFilled("no block", map[int]string{3: blockOf(30)})
	}
	w.holdPending("no block", 1)
	w.sync("Sync", api.OK)
	w.holdFilled("Sync", map[int]string{3: blockOf(30)})
}

// P21.2: a block that waits is told as it was written last, and no other one is changed; how many wait is told, each once. All bytes may be written.
func TestReadWaiting(t *testing.T) {
	w := filled(t, 6, 3, 4)
	want := map[int]string{}
	for turn, n := range []int{0, 11, 5, 4, 4, 0, 3, 5, 5, 6, 7, 8} {
		want[n] = blockOf(100 + turn)
		w.write("Write", n, want[n], api.OK)
		w.holdPending("Write", len(want))
		w.holdFilled("blocks wait", want)
	}
	want[1], want[2] = blockOf(2), blockOf(3)
	w.write("the bytes that it has", 1, want[1], api.OK)
	w.write("other bytes, and those that it had", 2, blockOf(1), api.OK)
	w.write("other bytes, and those that it had", 2, want[2], api.OK)
	w.holdPending("the bytes that they had", len(want))
	for i := range 256 {
		b := slices.Repeat([]byte{byte(i)}, blockSize)
		b[i%blockSize]++
		want[9] = string(b)
		w.write("each byte", 9, want[9], api.OK)
		w.hold("each byte", 9, want[9])
	}
	for _, s := range []string{noughts, "\xff\xfe\x80" + noughts[3:], someText(31, 1) + "\x00", "\x00" + someText(31, 1)} {
		want[10] = s
		w.write("such bytes", 10, s, api.OK)
		w.hold("such bytes", 10, s)
	}
	w.sync("Sync", api.OK)
	w.holdPending("Sync", 0)
	w.holdFilled("Sync", want)
	w.remount("Sync")
	w.holdFilled("behind Mount", want)
}

// losses are ways in which what a disk has is lost.
var losses = []struct {
	what string
	lose func(w *twins, disks []int)
}{
	{"dead", func(w *twins, disks []int) { w.kill(disks...) }},
	{"chunks spoilt", func(w *twins, disks []int) {
		for slot := range 16 {
			w.tamper(firstCell+slot, "spoilt", disks...)
		}
	}},
	{"a pair spoilt", func(w *twins, disks []int) { w.tamper(firstPair+1, "spoilt", disks...) }},
	{"as it was made", func(w *twins, disks []int) {
		w.both(func(b *bank.Bank) {
			for _, i := range disks {
				b.Disk(i).Restore(nil)
			}
		})
	}},
}

// disksOf tells those whose bits are set.
func disksOf(set int) []int {
	var l []int
	for i := range 12 {
		if set>>i&1 == 1 {
			l = append(l, i)
		}
	}
	return l
}

// P21.2, P21.5: of whatever disks none, one or two are lost, each block is told, by whatever way they are lost; if three are, each block that lies on another one is told, and of the others it is ErrLost. Blocks that wait are told in any case.
func TestReadLost(t *testing.T) {
	for _, x := range losses {
		for set := range 1 << 5 {
			disks := disksOf(set)
			what := x.what + ": the disks " + strconv.Itoa(set)
			w := filled(t, 5, 3, 4)
			w.write("Write", 2, blockOf(90), api.OK)
			x.lose(w, disks)
			for n := range 12 {
				stripe, chunk := n/3, n%3
				lost := slices.Contains(disks, (chunk+stripe)%5) && len(disks) > 2
				switch {
				case n == 2:
					w.hold(what, n, blockOf(90))
				case lost:
					w.holdError(what, n, api.ErrLost)
				default:
					w.hold(what, n, blockOf(n+1))
				}
			}
		}
	}
}

// P21.5: with two disks lost, each two, of volumes of each number of data chunks, each block is told.
func TestReadTwoLost(t *testing.T) {
	for data := least; data <= most; data++ {
		whole := pictureOf(filled(t, data+more, data, 2))
		for set := range 1 << (data + more) {
			disks := disksOf(set)
			if len(disks) != 2 {
				continue
			}
			w := whole.mount(t)
			for _, i := range disks {
				w.b.Disk(i).Fail()
			}
			for n, s := range w.blocks() {
				if s != blockOf(n+1) {
					t.Fatalf("P21.5: data %d, without %v: the block %d is %q", data, disks, n, s)
				}
			}
		}
	}
}

// P21.2: if the power has failed, and the store hasn't met that, blocks that wait are told, and may be written; others are ErrPower. The store isn't dead by that, and all is told when the power is back.
func TestReadNoPower(t *testing.T) {
	w := filled(t, 5, 2, 4)
	w.write("Write", 1, blockOf(40), api.OK)
	w.cut(0)
	for range 2 {
		for n := range 8 {
			if n == 1 {
				w.hold("no power", n, blockOf(40))
			} else {
				w.holdError("no power", n, api.ErrPower)
			}
		}
		w.holdError("no power, and no such block", 8, api.ErrArg)
	}
	w.write("no power", 2, blockOf(41), api.OK)
	w.write("no power, and no such block", 8, blockOf(41), api.ErrArg)
	w.write("no power, and no block", 2, "", api.ErrShape)
	w.hold("no power", 2, blockOf(41))
	if w.v.Status().Dead {
		t.Error("P21.4: the store is dead, and has met no ErrPower")
	}
	w.sync("no power: a stripe can't be loaded", api.ErrPower)
	if w.v.Status().Dead {
		t.Error("P21.4: the store is dead, and has met no ErrPower")
	}
	w.crash()
	w.holdFilled("the power is back", map[int]string{1: blockOf(40), 2: blockOf(41)})
	w.sync("the power is back", api.OK)
	w.holdFilled("the power is back", map[int]string{1: blockOf(40), 2: blockOf(41)})
}

// P21.2, P21.4: with a store that is dead, Read, Write and Sync are ErrPower, ahead of all other errors, whether or not blocks wait, and whether or not there is power again. Status and Store tell it still; Format and Mount are ErrState; Unmount is OK.
func TestDead(t *testing.T) {
	w := filled(t, 5, 2, 4)
	store := w.v.Store()
	w.write("Write", 0, blockOf(40), api.OK)
	w.write("Write", 1, blockOf(41), api.OK)
	w.write("Write", 5, blockOf(42), api.OK)
	w.cut(5)
	w.sync("the power fails", api.ErrPower)
	for range 2 {
		w.refused("dead", func() {
			for _, n := range append(slices.Clone(ints), 0, 1, 2, 5, 7, 8) {
				holdErrors(t, "dead", w.v, n, api.ErrPower)
				w.holdError("dead", n, api.ErrPower)
				w.write("dead", n, blockOf(1), api.ErrPower)
				w.write("dead", n, "", api.ErrPower)
				w.format("dead", n, n, api.ErrState)
			}
			w.sync("dead", api.ErrPower)
			w.mount("dead", api.ErrState)
			w.format("dead", 2, 4, api.ErrState)
		})
		if s := w.v.Status(); !s.Mounted || !s.Dead || s.Pending != 3 || s.Blocks != 8 || s.Data != 2 || w.v.Store() != store {
			t.Errorf("P21.4: dead: Status: %v", s)
		}
		w.crash()
	}
	w.unmount("dead", api.OK)
	w.mount("behind it", api.OK)
	w.holdFilled("behind it", nil)
	w.cut(0)
	w.write("Write", 2, blockOf(43), api.OK)
	w.write("Write", 3, blockOf(44), api.OK)
	w.sync("a whole stripe, and no power", api.ErrPower)
	if !w.v.Status().Dead {
		t.Error("P21.4: the store isn't dead, and has met ErrPower")
	}
	w.crash()
	w.remount("behind it")
	w.holdFilled("behind it", nil)
}

// P21.2: with a store that is dead by somebody else's commit nothing waits, and Read, Write and Sync are ErrPower too.
func TestDeadByOther(t *testing.T) {
	w := filled(t, 5, 2, 4)
	w.cut(0)
	e := w.v.Store().Commit(planOf(w.v.Store()))
	f := w.m.s.Commit(planOf(w.m.s))
	w.agree("somebody's commit", e, f, api.ErrPower)
	w.crash()
	w.refused("dead", func() {
		holdErrors(t, "dead", w.v, 0, api.ErrPower)
		holdErrors(t, "dead", w.v, 99, api.ErrPower)
	})
	w.remount("behind it")
	w.holdFilled("behind it", nil)
}

// Rule 4: what becomes of the bytes of which the caller made a text makes no difference to the volume, nor what becomes of an answer's.
func TestWriteTexts(t *testing.T) {
	w := mounted(t, 5, 2, 4)
	b := []byte(blockOf(1))
	for n := range 8 {
		b[0] = byte(n)
		w.write("Write", n, string(b), api.OK)
		clear(b[1:])
		s, _ := w.read("Write", n)
		copy([]byte(s), noughts)
		copy(b, blockOf(n+2))
	}
	for range 2 {
		for n := range 8 {
			w.hold("texts of the caller", n, string([]byte{byte(n)})+blockOf(n + 1)[1:])
		}
		w.sync("Sync", api.OK)
	}
}
