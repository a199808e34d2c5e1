package slab

import (
	"math"
	"reflect"
	"slices"
	"strconv"
	"testing"

	"cofferdam/api"
	"cofferdam/bank"
	"cofferdam/intent"
)

// bankOf tells a bank of three disks of so many cells.
func bankOf(cells int) *bank.Bank {
	return bank.New(3, cells)
}

// holdApply holds what Apply answers, how many of the writes were made by then, in their order, how many wait and how many steps were made; and that nothing else is another.
func holdApply(t *testing.T, what string, s Slab, l []intent.Write, e api.Errno, made, waiting, steps int) {
	t.Helper()
	want := shotOf(s.Bank)
	for _, w := range l[:made] {
		want.images[s.Disk][w.At] = w.Cell
	}
	want.waiting[s.Disk] = waiting
	want.steps += steps
	in, hold := guarded(t, what, l, intent.Write{At: 99, Cell: "guard"}, intent.Write{At: -1})
	if f := s.Apply(in); f != e {
		t.Fatalf("%s: Apply: error %d, want %d", what, f, e)
	}
	hold()
	if now := shotOf(s.Bank); !reflect.DeepEqual(now, want) {
		t.Fatalf("%s: the bank isn't as it should be: %d steps, want %d; %d wait, want %d", what, now.steps, want.steps, now.waiting[s.Disk], waiting)
	}
}

// some tells writes to places of all kinds, one of them twice.
func some() []intent.Write {
	return []intent.Write{{At: 101, Cell: "a"}, {At: 0, Cell: "b"}, {At: 139, Cell: long(cellBytes)}, {At: 120, Cell: "c"}, {At: 101, Cell: "d"}, {At: 2}}
}

// P17.4: Apply makes all writes, in order, wherever they go, and they last.
func TestApply(t *testing.T) {
	for _, slots := range sizes {
		for disk := range 3 {
			s := Slab{Bank: bankOf(diskCells), Disk: disk, Slots: slots, Key: key}
			holdApply(t, "P17.4: some", s, some(), api.OK, 6, 0, 7)
			if c, _ := s.Bank.Read(disk, 101); c != "d" {
				t.Fatalf("P17.4: the later write isn't the last: %q", c)
			}
			was := shotOf(s.Bank)
			s.Bank.Crash()
			if now := shotOf(s.Bank); !reflect.DeepEqual(now, was) {
				t.Fatal("P17.4: behind an Apply that went well something was lost")
			}
			holdApply(t, "P17.4: the same", s, some(), api.OK, 6, 0, 7)
			l, _, _ := s.Blank()
			holdApply(t, "P17.4: Blank's", s, l, api.OK, len(l), 0, len(l)+1)
		}
	}
}

// P17.4: Apply of no writes still makes last what waits.
func TestApplyNone(t *testing.T) {
	s, _ := blank(t, 4)
	for _, l := range [][]intent.Write{nil, {}} {
		s.Bank.Write(1, 5, "waits")
		s.Bank.Write(0, 5, "waits on another disk")
		holdApply(t, "P17.4: none", s, l, api.OK, 0, 0, 1)
		s.Bank.Crash()
		mine, _ := s.Bank.Read(1, 5)
		if other, _ := s.Bank.Read(0, 5); mine != "waits" || other != "" {
			t.Fatalf("P17.4: none: %q, %q", mine, other)
		}
		holdApply(t, "P17.4: none", s, l, api.OK, 0, 0, 1)
	}
}

// P17.4: the power fails behind each number of steps: the writes up to there are made, in order, and wait.
func TestApplyDark(t *testing.T) {
	for steps := range 8 {
		s, _ := blank(t, 4)
		s.Bank.Cut(steps)
		if steps < 7 {
			holdApply(t, "P17.4: "+strconv.Itoa(steps)+" steps", s, some(), api.ErrPower, steps, steps, steps)
		} else {
			holdApply(t, "P17.4: enough steps", s, some(), api.OK, 6, 0, 7)
		}
	}
	s, _ := blank(t, 4)
	s.Bank.Cut(0)
	holdApply(t, "P17.4: none, dark", s, nil, api.ErrPower, 0, 0, 0)
	s.Bank.Crash()
	s.Bank.Cut(5)
	e := s.Apply(some())
	s.Bank.Crash(nil, []bool{true, false, true, false, false})
	first, _ := s.Bank.Read(1, 101)
	second, _ := s.Bank.Read(1, 0)
	if third, _ := s.Bank.Read(1, 139); e != api.ErrPower || first != "a" || second != "" || third != long(cellBytes) {
		t.Errorf("P17.4: the writes wait in another order: error %d, %q, %q", e, first, second)
	}
}

// P17.4: a write that the disk refuses, at each place: those ahead of it are made and wait, those behind it aren't.
func TestApplyRefused(t *testing.T) {
	refused := []struct {
		w intent.Write
		e api.Errno
	}{
		{intent.Write{At: -1}, api.ErrArg},
		{intent.Write{At: diskCells, Cell: "x"}, api.ErrArg},
		{intent.Write{At: math.MinInt}, api.ErrArg},
		{intent.Write{At: math.MaxInt}, api.ErrArg},
		{intent.Write{At: 1 << 32}, api.ErrArg},
		{intent.Write{At: 120, Cell: long(cellBytes + 1)}, api.ErrLong},
		{intent.Write{At: 0, Cell: long(1 << 16)}, api.ErrLong},
		{intent.Write{At: -1, Cell: long(cellBytes + 1)}, api.ErrArg},
	}
	for _, x := range refused {
		for i := range len(some()) + 1 {
			s, _ := blank(t, 8)
			l := slices.Insert(some(), i, x.w)
			holdApply(t, "P17.4: refused", s, l, x.e, i, i, i+1)
			s.Bank.Write(1, 7, "waits")
			holdApply(t, "P17.4: refused at once", s, []intent.Write{x.w, {At: 1, Cell: "y"}}, x.e, 0, i+1, 1)
		}
	}
	s, _ := blank(t, 8)
	holdApply(t, "P17.4: the first error", s, []intent.Write{refused[5].w, refused[0].w}, api.ErrLong, 0, 0, 1)
	holdApply(t, "P17.4: the first error", s, []intent.Write{refused[0].w, refused[5].w}, api.ErrArg, 0, 0, 1)
}

// P17.4: a dead disk: the error of the first write, or of making it last; a step is made for it.
func TestApplyDead(t *testing.T) {
	s, _ := blank(t, 4)
	s.Bank.Disk(1).Fail()
	holdApply(t, "P17.4: dead", s, some(), api.ErrDisk, 0, 0, 1)
	holdApply(t, "P17.4: dead, none", s, nil, api.ErrDisk, 0, 0, 1)
	holdApply(t, "P17.4: dead, no place", s, []intent.Write{{At: -1}}, api.ErrDisk, 0, 0, 1)
	s.Bank.Cut(0)
	holdApply(t, "P17.4: dead and dark", s, some(), api.ErrPower, 0, 0, 0)
}

// P17.4: what was written ahead of an error is there, and done again it is whole.
func TestApplyAgain(t *testing.T) {
	for _, slots := range sizes {
		for steps := range 2 * slots {
			s, was, _ := filled(t, slots)
			var l []Change
			for slot := range slots {
				c, _ := s.Seal(slot, nonceOf(70+slot), plainOf(70+slot))
				l = append(l, Change{slot, c})
			}
			writes, top, _ := s.Prepare(was, l)
			s.Bank.Cut(steps)
			if e := s.Apply(writes); e != api.ErrPower {
				t.Fatalf("P17.4: %d of %d steps: error %d", steps, len(writes)+1, e)
			}
			s.Bank.Crash(nil, []bool{true, false, true, true, false, true})
			if e := s.Apply(writes); e != api.OK {
				t.Fatalf("P17.4: again: error %d", e)
			}
			for slot := range slots {
				holdGet(t, "P17.2: done again", s, top, slot, plainOf(70+slot), api.OK)
			}
		}
	}
}

// P2: slabs of unlike disks of one bank, called by turns, leave each other as they were; and so do banks.
func TestByTurns(t *testing.T) {
	for _, slots := range sizes {
		var slabs []Slab
		var tops []string
		var had [][]string
		for _, b := range []*bank.Bank{bank.New(4, diskCells), bank.New(2, diskCells)} {
			for disk := range b.Size() {
				s, top := blankOn(t, b, disk, slots, plainOf(disk%2))
				slabs, tops = append(slabs, s), append(tops, top)
				had = append(had, slices.Repeat([]string{noughts}, slots))
			}
		}
		for turn := range 3 * len(slabs) {
			i, slot := turn*5%len(slabs), turn*7%slots
			s := slabs[i]
			c, _ := s.Seal(slot, nonceOf(turn), plainOf(turn))
			writes, top, e := s.Prepare(tops[i], []Change{{slot, c}})
			if e != api.OK {
				t.Fatalf("P17.3: by turns: error %d", e)
			}
			holdApply(t, "P17.4: by turns", s, writes, api.OK, len(writes), 0, len(writes)+1)
			tops[i], had[i][slot] = top, plainOf(turn)
			for j := range slabs {
				for slot := range slots {
					holdGet(t, "P2: by turns", slabs[j], tops[j], slot, had[j][slot], api.OK)
				}
				holdBad(t, "P2: by turns", slabs[j], tops[j])
			}
		}
		slabs[0].Bank.Disk(0).Fail()
		slabs[len(slabs)-1].Bank.Cut(0)
		for j := 1; j < 4; j++ {
			holdBad(t, "P2: beside a dead disk", slabs[j], tops[j])
		}
		holdBad(t, "P17.4: the dead disk", slabs[0], tops[0], all(slots)...)
	}
}
