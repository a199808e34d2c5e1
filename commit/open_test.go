package commit_test

import (
	"strconv"
	"strings"
	"testing"

	"cofferdam/anchor"
	"cofferdam/api"
	"cofferdam/bank"
	"cofferdam/commit"
	"cofferdam/disk"
	"cofferdam/intent"
	"cofferdam/nonce"
	"cofferdam/super"
)

// holdOpen holds that Open answers an error, no store, and has left all as it was.
func holdOpen(t *testing.T, what string, b *bank.Bank, a *anchor.Anchor, key string, want api.Errno) {
	t.Helper()
	was := shotOf(b, a)
	if s, e := commit.Open(b, a, key); e != want || s != nil {
		t.Errorf("P20.2: %s: error %d, want %d; a store: %v", what, e, want, s != nil)
	}
	if diff := shotOf(b, a).differs(was); diff != "" {
		t.Errorf("P20.2: %s: %s", what, diff)
	}
}

// laid tells twins on whose disks a record stands, as if it had been published, and nothing else.
func laid(t *testing.T, disks int, r super.Super) *twins {
	t.Helper()
	text, e := super.Put(r)
	if e != api.OK {
		t.Fatalf("the measure is wrong: layer 14: error %d", e)
	}
	w := newTwins(t, disks)
	for i := range disks {
		w.tamper(int(r.Count%2), text, i)
	}
	w.anchored(r.Count, super.Digest(text))
	return w
}

// anchored sets both anchors.
func (w *twins) anchored(count uint64, digest string) {
	w.t.Helper()
	if w.a.Set(count, digest) != api.OK || w.d.Set(count, digest) != api.OK {
		w.t.Fatal("the measure is wrong: the anchor can't be set")
	}
}

// recordOf tells a good record of a volume of so many disks, with four seats.
func recordOf(disks int) super.Super {
	r := super.Super{Count: 7, Epoch: 5, Data: 2, Slots: 4, Seats: []int{0, 1, 2, 3}}
	for i := range disks {
		m := super.Member{Top: someText(32, i), Log: none}
		if i < 4 {
			m.State = super.Active
		}
		r.Members = append(r.Members, m)
	}
	return r
}

// P20.2: nil banks and anchors are ErrNil, other keys and too small disks ErrArg, an anchor with count 0 ErrNone, in this order.
func TestOpenRefused(t *testing.T) {
	w := opened(t, 4, 2, 4)
	for _, k := range []string{key, "", "short"} {
		holdOpen(t, "no bank", nil, w.a, k, api.ErrNil)
		holdOpen(t, "no anchor", w.b, nil, k, api.ErrNil)
		holdOpen(t, "neither", nil, nil, k, api.ErrNil)
		holdOpen(t, "no bank, a new anchor", nil, anchor.New(), k, api.ErrNil)
		holdOpen(t, "no anchor, small disks", bank.New(4, 1), nil, k, api.ErrNil)
	}
	for _, a := range []*anchor.Anchor{w.a, anchor.New()} {
		for _, n := range []int{0, 1, 16, 31, 33, 64, 256 + 32, 1 << 16} {
			holdOpen(t, "a key of another length", w.b, a, someText(n, n), api.ErrArg)
		}
		for _, cells := range []int{1, firstLog, firstPair, firstCell, diskCells - 1} {
			holdOpen(t, "small disks", bank.New(4, cells), a, key, api.ErrArg)
		}
	}
	holdOpen(t, "a new anchor", w.b, anchor.New(), key, api.ErrNone)
	holdOpen(t, "a bank without disks, a new anchor", new(bank.Bank), anchor.New(), key, api.ErrNone)
	holdOpen(t, "a bank without disks", new(bank.Bank), w.a, key, api.ErrLost)
	w.b.Cut(0)
	holdOpen(t, "a new anchor, no power", w.b, anchor.New(), key, api.ErrNone)
	holdOpen(t, "no power", w.b, w.a, key, api.ErrPower)
	for i := range 4 {
		w.b.Disk(i).Fail()
	}
	holdOpen(t, "no power, and all disks dead", w.b, w.a, key, api.ErrPower)
	w.b.Crash()
	holdOpen(t, "all disks dead", w.b, w.a, key, api.ErrLost)
	*w.b.Disk(3) = *disk.New(diskCells - 1)
	holdOpen(t, "one disk too small", w.b, w.a, key, api.ErrArg)
}

// P20.2: disks of more cells than a volume needs do as well.
func TestOpenLarge(t *testing.T) {
	for _, cells := range []int{diskCells, diskCells + 1, 512} {
		b, a := bank.New(4, cells), anchor.New()
		if e := commit.Format(b, a, key, 2, 4); e != api.OK {
			t.Errorf("P20.1: disks of %d cells: error %d", cells, e)
		}
		if s, e := commit.Open(b, a, key); e != api.OK || s == nil {
			t.Errorf("P20.2: disks of %d cells: error %d", cells, e)
		}
	}
}

// P20.2: each Open adds one to Count and Epoch, and to nothing else; numbers begin at 0 again.
func TestOpenAgain(t *testing.T) {
	w := newTwins(t, 6)
	w.format("P20.1", 3, 8, api.OK)
	for i := range uint64(6) {
		before := w.b.Steps()
		w.open("P20.2: again", api.OK)
		if w.b.Steps() != before+2*6+1 {
			t.Errorf("P20.2: Open made %d steps", w.b.Steps()-before)
		}
		r := w.s.Super()
		count, digest := w.a.Get()
		text, _ := super.Put(r)
		if r.Count != i+2 || r.Epoch != i+2 || count != r.Count || digest != super.Digest(text) {
			t.Fatalf("P20.2: again: %d, %d; the anchor has %d", r.Count, r.Epoch, count)
		}
		if r.Data != 3 || r.Slots != 8 || r.Mark != 0 || r.Built != 0 || r.Growing || len(r.Seats) != 5 || w.states() != "111110" {
			t.Fatalf("P20.2: again: %v", r)
		}
		for disk := range 6 {
			if c, _ := w.b.Disk(disk).Read(int(r.Count % 2)); c != text {
				t.Fatalf("P20.2: the record isn't on disk %d", disk)
			}
		}
		for number := range i {
			c, _ := w.seal(0, 0, noughts)
			if epoch, n, e := nonce.Read(c[:12]); epoch != i+2 || n != number || e != api.OK {
				t.Fatalf("P20.2: the nonce is %d, %d", epoch, n)
			}
		}
	}
}

// P20.2: the record is found in each cell 0 or 1 of each disk, when all others were changed, and nowhere else.
func TestOpenFinds(t *testing.T) {
	for disk := range 5 {
		for at := range 4 {
			w := opened(t, 5, 2, 4)
			text, _ := w.b.Read(disk, 0)
			for i := range 5 {
				w.tamper(0, someText(456, i), i)
				w.tamper(1, text+"x", i)
			}
			w.tamper(at, text, disk)
			if at < 2 {
				w.open("P20.2: one record is left", api.OK)
			} else {
				w.open("P20.2: the record stands elsewhere", api.ErrLost)
			}
		}
	}
}

// P20.2: records that were changed, elder ones, and those that another anchor has, are none.
func TestOpenOther(t *testing.T) {
	w := opened(t, 4, 2, 4)
	w.kill(1)
	text, _ := w.b.Read(0, 0)
	for at := range text {
		c := []byte(text)
		c[at] ^= 1
		w.tamper(0, string(c), 0, 2, 3)
		w.open("P20.2: a byte of the record was changed", api.ErrLost)
	}
	for _, c := range []string{"", text[1:], text[:len(text)-1], text + "\x00"} {
		w.tamper(0, c, 0, 2, 3)
		w.open("P20.2: the record has other bytes", api.ErrLost)
	}
	w.tamper(0, text, 3)
	w.open("P20.2: the record is back", api.OK)
	other := opened(t, 4, 2, 8)
	holdOpen(t, "another's anchor", w.b, other.a, key, api.ErrLost)
}

// P20.2: disks that were put back to yesterday: some of them, and all.
func TestOpenYesterday(t *testing.T) {
	for set := range 1 << 4 {
		w := filled(t, 4, 2, 4)
		var images [][]string
		for i := range 4 {
			images = append(images, w.b.Disk(i).Image())
		}
		w.commit("P20.5", w.plan(w.changes(1, 50)...), api.OK)
		for i := range 4 {
			if set>>i&1 == 1 {
				w.both(func(b *bank.Bank) { b.Disk(i).Restore(images[i]) })
			}
		}
		if set == 15 {
			w.open("P20.2: all disks are as they were yesterday", api.ErrLost)
			continue
		}
		w.open("P20.2: some disks are as they were yesterday", api.OK)
		if n := strings.Count(strconv.FormatInt(int64(set), 2), "1"); n <= 2 {
			w.holdStripe("P20.2: some disks are as they were yesterday", 0, 1, lostOf(w, set, 0)...)
			w.holdStripe("P20.2: some disks are as they were yesterday", 1, 50, lostOf(w, set, 1)...)
		}
	}
}

// lostOf tells which chunks of a stripe lie on the disks of a set.
func lostOf(w *twins, set, n int) []int {
	var l []int
	for chunk := range 4 {
		if seat, _ := w.s.Layout().Seat(n, chunk); set>>seat&1 == 1 {
			l = append(l, chunk)
		}
	}
	return l
}

// P20.2: dead disks are passed over, as long as one isn't.
func TestOpenDead(t *testing.T) {
	for set := range 1 << 4 {
		w := filled(t, 4, 2, 4)
		w.open("P20.2: the last commit's logs", api.OK)
		dead := 0
		for i := range 4 {
			if set>>i&1 == 1 {
				w.kill(i)
				dead++
			}
		}
		if dead == 4 {
			w.open("P20.2: all disks are dead", api.ErrLost)
			continue
		}
		before := w.b.Steps()
		w.open("P20.2: dead disks", api.OK)
		w.holdStates("dead disks", "1111")
		if n := w.b.Steps() - before; n != 2*(4-dead)+dead+1 {
			t.Errorf("P20.2: %d dead disks: Open made %d steps", dead, n)
		}
	}
}

// P20.2: a text that has the anchor's digest, and is no record: it is passed over, and there is no other.
func TestOpenNoRecord(t *testing.T) {
	r := recordOf(4)
	text, _ := super.Put(r)
	for _, c := range []string{"", "no record", text + "x", text[:len(text)-1]} {
		w := newTwins(t, 4)
		for i := range 4 {
			w.tamper(0, c, i)
			w.tamper(1, text, i)
		}
		w.anchored(7, super.Digest(c))
		w.open("P20.2: the digest of no record", api.ErrLost)
		if w.b.Steps() != 0 {
			t.Errorf("P20.2: the digest of no record: %d steps", w.b.Steps())
		}
	}
}

// P20.2: a record of another number of disks is ErrLost, ahead of ErrUsed.
func TestOpenMembers(t *testing.T) {
	for members := 4; members <= 12; members++ {
		for disks := 1; disks <= 12; disks++ {
			for _, epoch := range []uint64{5, mostEpoch} {
				r := recordOf(members)
				r.Epoch = epoch
				w := laid(t, disks, r)
				want := api.OK
				if members != disks {
					want = api.ErrLost
				} else if epoch == mostEpoch {
					want = api.ErrUsed
				}
				w.open("P20.2: "+strconv.Itoa(members)+" members, "+strconv.Itoa(disks)+" disks", want)
			}
		}
	}
}

// P20.2: an Epoch that isn't below MaxEpoch is ErrUsed, and nothing is done.
func TestOpenEpochs(t *testing.T) {
	for _, epoch := range []uint64{0, 1, 255, 256, 1 << 16, mostEpoch - 2, mostEpoch - 1, mostEpoch, mostEpoch + 1, mostEpoch + 2, 1 << 33, 1 << 63, 1<<64 - 2, 1<<64 - 1} {
		r := recordOf(5)
		r.Epoch = epoch
		w := laid(t, 5, r)
		w.log(1, &r, true)
		if epoch >= mostEpoch {
			w.open("P20.2: the last epoch", api.ErrUsed)
			if w.b.Steps() != 0 {
				t.Errorf("P20.2: Epoch %d: %d steps", epoch, w.b.Steps())
			}
			continue
		}
		w.open("P20.2: an epoch", api.OK)
		if is := w.s.Super(); is.Epoch != epoch+1 || is.Count != r.Count+1 {
			t.Errorf("P20.2: Epoch %d: %d", epoch, is.Epoch)
		}
		if epoch == mostEpoch-2 {
			w.open("P20.2: the last but one", api.OK)
			w.open("P20.2: the last epoch", api.ErrUsed)
		}
	}
}

// P20.2: a record is found by its digest, not by its Count; the anchor's error is told where that isn't below.
func TestOpenCounts(t *testing.T) {
	for _, x := range []struct {
		record, anchor uint64
		e              api.Errno
	}{{7, 7, api.OK}, {7, 1, api.OK}, {7, 8, api.ErrUsed}, {7, 1 << 63, api.ErrUsed}, {0, 1, api.ErrUsed}, {1<<64 - 2, 1<<64 - 2, api.OK}, {1<<64 - 1, 1<<64 - 1, api.ErrUsed}, {1<<64 - 1, 1, api.ErrUsed}} {
		r := recordOf(4)
		r.Count = x.record
		text, _ := super.Put(r)
		w := newTwins(t, 4)
		for i := range 4 {
			w.tamper(i%2, text, i)
		}
		w.anchored(x.anchor, super.Digest(text))
		w.open("P20.2: the record's Count isn't the anchor's", x.e)
	}
}

// writesOf tells some that were logged.
func writesOf(disk int) []intent.Write {
	return []intent.Write{{At: 101, Cell: someText(64, 7+disk)}, {At: 139, Cell: "last"}, {At: 100, Cell: "first"}, {At: 120, Cell: someText(60, disk)}, {At: 139, Cell: "again"}}
}

// log lays a log of some writes, and the record r with its digest, onto twins made by laid.
func (w *twins) log(disk int, r *super.Super, publish bool) {
	w.t.Helper()
	cells, digest, e := intent.Put(writesOf(disk))
	if e != api.OK {
		w.t.Fatalf("layer 15: error %d", e)
	}
	for i, c := range cells {
		w.tamper(firstLog+i, c, disk)
	}
	r.Members[disk].Log = digest
	if !publish {
		return
	}
	r.Count++
	text, _ := super.Put(*r)
	for i := range w.b.Size() {
		w.tamper(int(r.Count%2), text, i)
	}
	w.anchored(r.Count, super.Digest(text))
}

// logs tells twins with a log on each disk, of which the first is Failed, the second Building, the third and fourth Active, the fifth Spare, the sixth Failed on no seat; and each's record.
func logs(t *testing.T) (*twins, super.Super) {
	t.Helper()
	r := recordOf(6)
	r.Members[0].State, r.Members[1].State, r.Members[5].State = super.Failed, super.Building, super.Failed
	r.Built = 2
	w := laid(t, 6, r)
	for i := range 6 {
		w.log(i, &r, i == 5)
	}
	return w, r
}

// holdDone holds on which disks the log's writes were made.
func (w *twins) holdDone(what string, disks ...int) {
	w.t.Helper()
	for i := range 6 {
		done := false
		for _, d := range disks {
			done = done || d == i
		}
		for at, want := range map[int]string{100: "first", 101: someText(64, 7+i), 120: someText(60, i), 139: "again", 102: "", 121: ""} {
			if !done {
				want = ""
			}
			if w.b.Disk(i).Dead() {
				continue
			}
			if c := w.b.Disk(i).Image()[at]; c != want {
				w.t.Fatalf("P20.2: %s: cell %d of disk %d has %.20q, want %.20q", what, at, i, c, want)
			}
		}
	}
}

// P20.2: the logs of Active and Building disks are done, in order, no others; behind it all are Empty.
func TestOpenLogs(t *testing.T) {
	w, was := logs(t)
	before := w.b.Steps()
	w.open("P20.2: logs", api.OK)
	w.holdDone("logs", 1, 2, 3)
	if n := w.b.Steps() - before; n != 3*6+2*6+1 {
		t.Errorf("P20.2: logs: %d steps", n)
	}
	r := w.s.Super()
	for i, m := range r.Members {
		if m.Log != none || m.Top != was.Members[i].Top || m.State != was.Members[i].State {
			t.Errorf("P20.2: logs: member %d is %v", i, m)
		}
	}
	if r.Built != 2 || r.Count != was.Count+1 || r.Epoch != was.Epoch+1 {
		t.Errorf("P20.2: logs: %v", r)
	}
	before = w.b.Steps()
	w.open("P20.2: logs that were done", api.OK)
	if n := w.b.Steps() - before; n != 2*6+1 {
		t.Errorf("P20.2: logs that were done: %d steps", n)
	}
}

// P20.2: of a log that was changed, at any cell, or has a cell more or fewer, nothing is done; the other disks' are.
func TestOpenChangedLogs(t *testing.T) {
	size := len(writesOf(0)) + 1
	for at := firstLog; at < firstLog+size; at++ {
		for _, c := range []string{"", "x", "\x00\x00\x00\x00\x00\x00\x00\x00", "\x00\x00\x00\x00\x00\x00\x00\x04", "\x00\x00\x00\x00\x00\x00\x00\x06", "\x00\x00\x00\x00\x00\x00\x00\x5f", "\x00\x00\x00\x00\x00\x00\x00\x60", "\x01\x00\x00\x00\x00\x00\x00\x05", "\x00\x00\x00\x00\x00\x00\x00\x05x"} {
			w, _ := logs(t)
			w.tamper(at, c, 2)
			w.open("P20.2: a changed log", api.OK)
			w.holdDone("a changed log", 1, 3)
		}
	}
	w, _ := logs(t)
	w.tamper(firstLog+size, "further", 1, 2, 3)
	w.open("P20.2: further cells", api.OK)
	w.holdDone("further cells", 1, 2, 3)
}

// P20.2: a dead disk's log is passed over, a disk that was put back has none, and one with another's isn't done.
func TestOpenMissingLogs(t *testing.T) {
	for disk := range 6 {
		w, _ := logs(t)
		w.kill(disk)
		w.open("P20.2: a dead disk", api.OK)
		w.holdDone("a dead disk", 1, 2, 3)
		w, _ = logs(t)
		text, _ := w.b.Read(disk, 0)
		w.both(func(b *bank.Bank) { b.Disk(disk).Restore([]string{text, text}) })
		w.open("P20.2: a disk that was put back", api.OK)
		var left []int
		for _, i := range []int{1, 2, 3} {
			if i != disk {
				left = append(left, i)
			}
		}
		w.holdDone("a disk that was put back", left...)
	}
	w, _ := logs(t)
	for at := firstLog; at < firstPair; at++ {
		c, _ := w.b.Read(1, at)
		w.tamper(at, c, 3)
	}
	w.open("P20.2: another disk's log", api.OK)
	w.holdDone("another disk's log", 1, 2)
}

// P20.2: logs that fit their digest, but have no writes, or one that may not be logged: nothing is done, and no step is made.
func TestOpenOddLogs(t *testing.T) {
	number := func(n int) string { return "\x00\x00\x00\x00\x00\x00\x00" + string([]byte{byte(n)}) }
	for _, cells := range [][]string{
		{number(0)},
		{number(1), number(99) + number(1) + "x"},
		{number(1), number(140) + number(1) + "x"},
		{number(2), number(101) + number(1) + "x", number(1) + number(1) + "x"},
		{number(2), number(101) + number(1) + "x", number(101) + number(1)},
	} {
		r := recordOf(4)
		r.Members[1].Log = digestOf(cells)
		w := laid(t, 4, r)
		for i, c := range cells {
			w.tamper(firstLog+i, c, 1)
		}
		w.open("P20.2: an odd log", api.OK)
		for at := firstPair; at < diskCells; at++ {
			if c, _ := w.b.Read(1, at); c != "" {
				t.Errorf("P20.2: an odd log of %d cells was done", len(cells))
			}
		}
		if w.b.Steps() != 2*4+1 {
			t.Errorf("P20.2: an odd log: %d steps", w.b.Steps())
		}
	}
}

// P20.2: the shortest log that has something to be done.
func TestOpenShortLog(t *testing.T) {
	r := recordOf(4)
	cells, digest, e := intent.Put([]intent.Write{{At: firstCell + 1, Cell: "one"}})
	r.Members[2].Log = digest
	w := laid(t, 4, r)
	for i, c := range cells {
		w.tamper(firstLog+i, c, 2)
	}
	w.open("P20.2: the shortest log", api.OK)
	if c, _ := w.b.Read(2, firstCell+1); e != api.OK || c != "one" || w.b.Steps() != 2+2*4+1 {
		t.Errorf("P20.2: the shortest log: error %d, %q, %d steps", e, c, w.b.Steps())
	}
}

// P20.2: the longest log there may be.
func TestOpenLongLog(t *testing.T) {
	var l []intent.Write
	for i := range mostWrites {
		l = append(l, intent.Write{At: firstPair + i%40, Cell: someText(mostBytes-i, i)})
	}
	cells, digest, e := intent.Put(l)
	r := recordOf(4)
	r.Members[3].Log = digest
	w := laid(t, 4, r)
	for i, c := range cells {
		w.tamper(firstLog+i, c, 3)
	}
	w.open("P20.2: the longest log", api.OK)
	if c, _ := w.b.Read(3, firstPair+mostWrites%40-1); e != api.OK || c != l[mostWrites-1].Cell || w.b.Steps() != mostWrites+1+2*4+1 {
		t.Errorf("P20.2: the longest log: error %d, %d steps", e, w.b.Steps())
	}
}

// P20.2: the power fails behind each number of steps of an Open: ErrPower, and no store; the next one finds the same, and does the rest.
func TestOpenDark(t *testing.T) {
	enough := 3*6 + 2*6 + 1
	for steps := range enough + 3 {
		for set := range 1 << 5 {
			w, was := logs(t)
			w.both(func(b *bank.Bank) { b.Cut(steps) })
			if steps >= enough {
				w.open("P20.2: enough steps", api.OK)
				break
			}
			w.open("P20.2: the power fails", api.ErrPower)
			if count, _ := w.a.Get(); count != was.Count {
				t.Fatalf("P20.2: %d steps: the anchor has %d", steps, count)
			}
			var kept []bool
			for i := range 5 {
				kept = append(kept, set>>i&1 == 1)
			}
			w.both(func(b *bank.Bank) { b.Crash(kept, kept, kept, kept, kept, kept) })
			w.open("P20.2: once more", api.OK)
			w.holdDone("once more", 1, 2, 3)
			if r := w.s.Super(); r.Count != was.Count+1 || r.Epoch != was.Epoch+1 {
				t.Fatalf("P20.2: once more: %v", r)
			}
		}
	}
}
