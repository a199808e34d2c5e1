package slab

import (
	"testing"

	"cofferdam/api"
	"cofferdam/bank"
	"cofferdam/intent"
)

// chance tells numbers that are the same each time.
type chance uint64

func (c *chance) next() uint64 {
	*c = *c*6364136223846793005 + 1442695040888963407
	return uint64(*c) ^ uint64(*c)>>29
}

func (c *chance) below(n int) int {
	return int(c.next() >> 11 % uint64(n))
}

// world is a bank of slabs, each with tops that it had, the last one being what it has now.
type world struct {
	chance
	t     *testing.T
	bank  *bank.Bank
	slabs []Slab
	tops  [][]string
	seen  map[api.Errno]int // Get's errors as they are, Prepare's from 1000 on, Apply's from 2000 on
}

// slot tells one that mostly there is.
func (w *world) slot(s Slab) int {
	if w.below(40) == 0 {
		return ints[w.below(len(ints))]
	}
	return w.below(s.Slots + w.below(40)/39)
}

// cell tells one that mostly is a chunk's.
func (w *world) cell(s Slab, slot int) string {
	switch w.below(12) {
	case 0:
		return ""
	case 1:
		return long(w.below(40))
	case 2:
		return long(mostBytes - 2 + w.below(3+w.below(2)*2))
	case 3:
		other := w.slabs[w.below(len(w.slabs))]
		c, _ := other.Seal(w.below(other.Slots), nonceOf(w.below(1<<20)), plainOf(w.below(100)))
		return c
	}
	c, _ := s.Seal(slot, nonceOf(w.below(1<<20)), plainOf(w.below(100)))
	return c
}

// top tells mostly the slab's own.
func (w *world) top(i int) string {
	l := w.tops[i]
	switch w.below(20) {
	case 0:
		return l[w.below(len(l))]
	case 1:
		return turned(l[len(l)-1], w.below(32), 1)
	}
	return l[len(l)-1]
}

// change prepares some changes, and mostly applies what that tells.
func (w *world) change(i int) {
	w.t.Helper()
	s, top := w.slabs[i], w.top(i)
	var l []Change
	for range w.below(5) {
		slot := w.slot(s)
		l = append(l, Change{slot, w.cell(s, slot)})
	}
	writes, now, e := holdPrepare(w.t, "P17.3: by chance", s, top, l)
	w.seen[1000+e]++
	if e != api.OK || w.below(6) == 0 {
		return
	}
	f := s.Apply(writes)
	w.seen[2000+f]++
	if f == api.OK {
		w.tops[i] = append(w.tops[i], now)
	}
}

// meddle does to the bank what isn't the slabs' doing.
func (w *world) meddle(i int) {
	s := w.slabs[i]
	d := w.bank.Disk(s.Disk)
	switch w.below(6) {
	case 0:
		d.Tamper(firstPair+w.below(s.Slots), long(w.below(70)))
	case 1:
		d.Tamper(firstCell+w.below(s.Slots), w.cell(s, w.below(s.Slots)))
	case 2:
		from, _ := d.Read(firstCell + w.below(s.Slots))
		d.Tamper(firstCell+w.below(s.Slots), from)
	case 3:
		w.bank.Cut(w.below(12))
	case 4:
		w.bank.Crash(make([]bool, 5), []bool{true, false, true})
	case 5:
		if w.below(10) == 0 {
			d.Fail()
		}
	}
}

// mend lays a slab blank, with power, so that there is something to be had again.
func (w *world) mend(i int) {
	w.bank.Crash()
	l, top, e := w.slabs[i].Blank()
	if e != api.OK {
		w.t.Fatalf("P17.4: Blank: error %d", e)
	}
	if w.slabs[i].Apply(l) == api.OK {
		w.tops[i] = append(w.tops[i], top)
	}
}

// look holds what is told of a slab.
func (w *world) look(i int) {
	w.t.Helper()
	s, top := w.slabs[i], w.top(i)
	for slot := range s.Slots {
		want, e := toldGet(s, top, slot)
		w.seen[e]++
		holdGet(w.t, "P17.2: by chance", s, top, slot, want, e)
	}
	holdBad(w.t, "P17.4: by chance", s, top, toldBad(s, top)...)
	slot, nonce, plain := w.slot(s), nonceOf(w.below(9)), plainOf(w.below(9))
	if w.below(10) == 0 {
		nonce, plain = nonce[w.below(2):], plain[w.below(2):]
	}
	want, e := toldSeal(w.t, s, slot, nonce, plain)
	holdSeal(w.t, "P17.1: by chance", s, slot, nonce, plain, want, e)
}

// P17.1 to P17.4, P2: rows of calls of several slabs of one bank by chance, with somebody meddling, against the document's sentences.
func TestRowsOfCalls(t *testing.T) {
	seen := map[api.Errno]int{}
	for seed := range 60 {
		w := &world{chance: chance(seed), t: t, bank: bank.New(4, diskCells), seen: seen}
		for disk := range 4 {
			s, top := blankOn(t, w.bank, disk, sizes[w.below(4)], key)
			w.slabs, w.tops = append(w.slabs, s), append(w.tops, []string{top})
		}
		for range 120 {
			i := w.below(4)
			switch n := w.below(20); {
			case n < 10:
				w.change(i)
			case n < 12:
				w.meddle(i)
			case n < 14:
				w.mend(i)
			default:
				w.look(i)
			}
		}
	}
	for _, e := range []api.Errno{api.OK, api.ErrShort, api.ErrSum, api.ErrOpen, api.ErrDisk, api.ErrPower, 1000, 1000 + api.ErrArg, 1000 + api.ErrLong, 1000 + api.ErrSum, 1000 + api.ErrDisk, 1000 + api.ErrPower, 2000, 2000 + api.ErrPower} {
		if seen[e] < 10 {
			t.Errorf("chance met %d only %d times", e, seen[e])
		}
	}
}

// Rule 7: what Prepare answers doesn't hang on the order in which a map is gone through.
func TestSameOrder(t *testing.T) {
	s, top, _ := filled(t, 16)
	var l []Change
	for i := range 16 {
		l = append(l, Change{i * 7 % 16, long(i)})
	}
	first, _, _ := s.Prepare(top, l)
	for range 100 {
		holdOrder(t, first)
		first, _, _ = s.Prepare(top, l)
	}
}

// holdOrder holds that each place comes behind the one ahead of it.
func holdOrder(t *testing.T, l []intent.Write) {
	t.Helper()
	for i := 1; i < len(l); i++ {
		if l[i-1].At >= l[i].At {
			t.Fatalf("rule 7: the places are %v", places(l))
		}
	}
	if len(l) != 31 {
		t.Fatalf("P17.3: %d writes", len(l))
	}
}
