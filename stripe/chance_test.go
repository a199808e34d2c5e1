package stripe

import (
	"slices"
	"testing"

	"cofferdam/api"
	"cofferdam/bank"
	"cofferdam/rs"
)

// told is what the calls answer, by the document's sentences on layers 4 and 17.
type told struct {
	chunks []string // those that can be had
	why    []api.Errno
	there  []bool
	lost   []int
}

// toldOf asks the shelves, as many as a stripe may have.
func toldOf(l []Shelf, stripe int) told {
	w := told{make([]string, len(l)), make([]api.Errno, len(l)), make([]bool, len(l)), nil}
	for i, s := range l {
		if !s.Use {
			w.lost = append(w.lost, i)
			continue
		}
		w.chunks[i], w.why[i] = s.Slab.Get(s.Top, stripe)
		w.there[i] = w.why[i] == api.OK
		if !w.there[i] {
			w.lost = append(w.lost, i)
		}
	}
	return w
}

func (w told) load() ([]string, []int, api.Errno) {
	switch n := len(w.chunks); {
	case n < least+more || n > most+more:
		return nil, nil, api.ErrArg
	case slices.Contains(w.why, api.ErrPower):
		return nil, nil, api.ErrPower
	case len(w.lost) > more:
		return nil, nil, api.ErrLost
	}
	all, e := rs.Decode(w.chunks, w.there)
	if e != api.OK {
		return nil, nil, e
	}
	return all, w.lost, api.OK
}

func (w told) one(chunk int) (string, api.Errno) {
	all, _, e := w.load()
	switch {
	case e == api.ErrArg || chunk < 0 || chunk >= len(w.chunks):
		return "", api.ErrArg
	case w.there[chunk]:
		return w.chunks[chunk], api.OK
	case w.why[chunk] == api.ErrPower:
		return "", api.ErrPower
	case e != api.OK:
		return "", e
	}
	return all[chunk], api.OK
}

func (w told) whole() bool {
	_, _, e := w.load()
	return e != api.ErrArg && len(w.lost) == 0 && rs.Check(w.chunks)
}

// chance tells numbers that are the same each time.
type chance uint64

func (c *chance) below(n int) int {
	*c = *c*6364136223846793005 + 1442695040888963407
	return int((uint64(*c) ^ uint64(*c)>>29) >> 11 % uint64(n))
}

// world is a stack on several banks, and somebody who meddles with it.
type world struct {
	chance
	*stack
	seen map[api.Errno]int // Load's errors as they are, One's from 1000 on; 2000 and 2001 of Whole, that it isn't and that it is
}

// some tells a stack on the disks of up to three banks.
func (w *world) some(t *testing.T) {
	banks := []*bank.Bank{bank.New(12, diskCells), bank.New(12, diskCells), bank.New(12, diskCells)}
	count := 1 + w.below(3)
	w.stack = laid(t, least+w.below(most-least+1), sizes[w.below(3)], func(i int) (*bank.Bank, int) { return banks[i%count], i })
}

// meddle does something to a shelf that can be undone, or to its power.
func (w *world) meddle() {
	i := w.below(len(w.shelves))
	stripe := w.below(len(w.stripes))
	s := &w.shelves[i]
	switch w.below(8) {
	case 0:
		s.Use = !s.Use
	case 1:
		w.disk(i).Tamper(firstCell+stripe, someText(60, w.below(99)))
	case 2:
		s.Top = w.shelves[w.below(len(w.shelves))].Top
	case 3:
		s.Slab.Bank.Cut(w.below(3))
	case 4:
		s.Slab.Key = key[w.below(2):]
	case 5:
		w.plain(i, stripe, someText(blockBytes, w.below(99)))
	case 6:
		w.plain(i, stripe, someText(30+w.below(4), w.below(99)))
	case 7:
		if w.below(20) == 0 {
			w.disk(i).Fail()
		}
	}
}

// plain lays a text onto a shelf, if it can be laid there.
func (w *world) plain(i, stripe int, plain string) {
	if s := w.shelves[i]; len(s.Slab.Bad(s.Top)) == 0 && len(s.Slab.Key) == len(key) {
		s.Slab.Bank.Crash() // there may be too few steps left
		w.put(i, stripe, plain)
	}
}

// mend lays a shelf anew, with power, so that its chunks can be had again.
func (w *world) mend(i int) {
	s := &w.shelves[i]
	s.Use, s.Slab.Key = true, key
	s.Slab.Bank.Crash()
	l, top, e := s.Slab.Blank()
	if e != api.OK {
		w.t.Fatalf("layer 17: Blank: error %d", e)
	}
	if s.Slab.Apply(l) != api.OK {
		return // it is dead
	}
	s.Top = top
	for stripe := range w.stripes {
		w.put(i, stripe, w.stripes[stripe][i])
	}
}

// look holds what is told of a stripe, of all shelves or of some of them.
func (w *world) look() {
	w.t.Helper()
	l, stripe := w.shelves, w.below(len(w.stripes))
	if w.below(10) == 0 {
		l = l[:w.below(len(l)+1)]
	}
	if w.below(30) == 0 {
		stripe = ints[w.below(len(ints))]
	}
	want := toldOf(l, stripe)
	quiet(w.t, "by chance", l, func() {
		w.t.Helper()
		chunks, lost, e := want.load()
		w.seen[e]++
		holdLoad(w.t, "P19.2: by chance", l, stripe, chunks, lost, e)
		for chunk := -1; chunk <= len(l); chunk++ {
			s, e := want.one(chunk)
			w.seen[1000+e]++
			holdOne(w.t, "P19.3: by chance", l, stripe, chunk, s, e)
		}
		holdWhole(w.t, "P19.4: by chance", l, stripe, want.whole())
		if want.whole() {
			w.seen[2001]++
		} else {
			w.seen[2000]++
		}
	})
}

// P19.2 to P19.4: rows of calls by chance, with somebody meddling, against the document's sentences.
func TestRowsOfCalls(t *testing.T) {
	seen := map[api.Errno]int{}
	for seed := range 40 {
		w := &world{chance: chance(seed), seen: seen}
		w.some(t)
		for range 100 {
			switch n := w.below(20); {
			case n < 7:
				w.meddle()
			case n < 13:
				w.mend(w.below(len(w.shelves)))
			default:
				w.look()
			}
		}
	}
	for _, e := range []api.Errno{api.OK, api.ErrArg, api.ErrShape, api.ErrPower, api.ErrLost, 1000, 1000 + api.ErrArg, 1000 + api.ErrShape, 1000 + api.ErrPower, 1000 + api.ErrLost, 2000, 2001} {
		if seen[e] < 10 {
			t.Errorf("chance met %d only %d times", e, seen[e])
		}
	}
}
