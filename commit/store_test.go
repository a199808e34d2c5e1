package commit_test

import (
	"math"
	"reflect"
	"slices"
	"strings"
	"testing"

	"cofferdam/api"
	"cofferdam/bank"
	"cofferdam/commit"
	"cofferdam/layout"
	"cofferdam/nonce"
	"cofferdam/stripe"
	"cofferdam/super"
)

// P20.3, P1: of a nil store ErrNil, false, nothing, an empty record and layout, whatever is handed in.
func TestNil(t *testing.T) {
	var s *commit.Store
	good := opened(t, 4, 2, 4).s.Super()
	for range 2 {
		if r := s.Super(); !reflect.DeepEqual(r, super.Super{}) {
			t.Errorf("P20.3: nil: Super: %v", r)
		}
		if l := s.Layout(); l != (layout.Layout{}) {
			t.Errorf("P20.3: nil: Layout: %v", l)
		}
		if s.Dead() {
			t.Error("P20.3: nil: Dead")
		}
		for _, n := range append(slices.Clone(ints), 0, 1, 4) {
			if l := s.Shelves(n); len(l) != 0 {
				t.Errorf("P20.3: nil: Shelves(%d): %v", n, l)
			}
			for _, plain := range []string{"", noughts} {
				if c, e := s.Seal(n, n, plain); c != "" || e != api.ErrNil {
					t.Errorf("P20.3: nil: Seal: %q, error %d", c, e)
				}
			}
		}
		for _, p := range []commit.Plan{{}, {Super: good}, {Super: good, Blank: []int{-1, 0, 99}}, {Changes: []commit.Change{changeOf(-1, -1, "")}}} {
			if e := s.Commit(p); e != api.ErrNil {
				t.Errorf("P20.3: nil: Commit: error %d", e)
			}
		}
	}
}

// P20.3, rule 4: what is done to the lists of an answer makes no difference to the store, nor to another answer.
func TestListsOfAnswers(t *testing.T) {
	w := filled(t, 5, 2, 4)
	want, shelves := w.s.Super(), w.s.Shelves(1)
	other := w.s.Super()
	other.Seats[0], other.Members[1] = 4, super.Member{State: super.Failed}
	clear(other.Seats[:cap(other.Seats)])
	clear(other.Members[:cap(other.Members)])
	l := w.s.Shelves(1)
	l[0], l[1].Use = stripe.Shelf{}, false
	clear(l[:cap(l)])
	if !alike(w.s.Super(), want) || !slices.Equal(w.s.Shelves(1), shelves) || len(shelves) != 4 || want.Seats[0] != 0 {
		t.Error("P20.3: the store has the memory of an answer")
	}
	w.commit("P20.5: on the record as it was", w.plan(w.changes(1, 50)...), api.OK)
	w.holdStripe("P20.5: on the record as it was", 1, 50)
}

// holdShelves holds the disks of a stripe's shelves, and which of them are for use.
func (w *twins) holdShelves(what string, n int, disks []int, use string) {
	w.t.Helper()
	l := w.s.Shelves(n)
	if len(l) != len(disks) || len(l) != len(use) {
		w.t.Fatalf("P20.3: %s: Shelves(%d) are %d", what, n, len(l))
	}
	r := w.s.Super()
	for i, s := range l {
		if s.Slab != slabOf(w.b, disks[i], r.Slots, key) || s.Top != r.Members[disks[i]].Top || s.Use != (use[i] == '+') {
			w.t.Fatalf("P20.3: %s: Shelves(%d): the chunk %d: disk %d, Use %v", what, n, i, s.Slab.Disk, s.Use)
		}
	}
}

// P20.3: the shelves of each stripe, in the order of its chunks; none of stripes that there aren't.
func TestShelves(t *testing.T) {
	for data := least; data <= most; data++ {
		for _, slots := range sizes {
			w := opened(t, 12, data, slots)
			wide := data + more
			for n := range slots {
				var disks []int
				for chunk := range wide {
					disks = append(disks, (chunk+n)%wide)
				}
				w.holdShelves("all Active", n, disks, strings.Repeat("+", wide))
			}
			for _, n := range append(slices.Clone(ints), slots, slots+1, 17) {
				if n < 0 || n >= slots {
					w.holdShelves("no such stripe", n, nil, "")
				}
			}
		}
	}
}

// seated tells twins whose volume has that record, on blank disks, and is open.
func seated(t *testing.T, disks int, r super.Super) *twins {
	t.Helper()
	for i := range r.Members {
		r.Members[i].Log = none
	}
	w := laid(t, disks, r)
	w.open("P20.2: a volume of that record", api.OK)
	return w
}

// P20.3: of disks in all states, on seats in another order: Active ones are for use, Building ones ahead of Built.
func TestShelvesStates(t *testing.T) {
	for built := range 5 {
		r := recordOf(6)
		r.Seats = []int{5, 0, 3, 1}
		for i, s := range []super.State{super.Failed, super.Active, super.Spare, super.Building, super.Failed, super.Active} {
			r.Members[i].State = s
		}
		r.Built = built
		w := seated(t, 6, r)
		for n, disks := range [][]int{{5, 0, 3, 1}, {0, 3, 1, 5}, {3, 1, 5, 0}, {1, 5, 0, 3}} {
			use := ""
			for _, d := range disks {
				if d == 1 || d == 5 || d == 3 && n < built {
					use += "+"
				} else {
					use += "-"
				}
			}
			w.holdShelves("all states", n, disks, use)
		}
	}
}

// P20.3: while a volume grows, new stripes have a shelf more. A record with Mark at Slots has a layout that isn't good, and so no stripes.
func TestShelvesGrowing(t *testing.T) {
	for mark := range 5 {
		r := recordOf(5)
		r.Seats, r.Growing, r.Mark = []int{0, 1, 2, 3, 4}, true, mark
		r.Members[4].State = super.Active
		w := seated(t, 5, r)
		for n := range 4 {
			switch {
			case mark == 4:
				w.holdShelves("Mark at Slots", n, nil, "")
			case n < mark:
				w.holdShelves("a new stripe", n, []int{n % 5, (n + 1) % 5, (n + 2) % 5, (n + 3) % 5, (n + 4) % 5}, "+++++")
			default:
				w.holdShelves("an old stripe", n, []int{n % 4, (n + 1) % 4, (n + 2) % 4, (n + 3) % 4}, "++++")
			}
		}
		if l := w.s.Layout(); l != (layout.Layout{Data: 2, Slots: 4, Mark: mark, Growing: true}) {
			t.Errorf("P20.3: Layout: %v", l)
		}
	}
}

// P20.3: a store is dead when it has met ErrPower, not when the power has failed, and stays so behind a Crash. It still tells its record.
func TestDead(t *testing.T) {
	w := filled(t, 4, 2, 4)
	p := w.plan(w.changes(0, 60)...)
	want, shelves := w.s.Super(), w.s.Shelves(2)
	w.both(func(b *bank.Bank) { b.Cut(0) })
	w.same("it hasn't met it yet")
	if w.s.Dead() {
		t.Error("P20.3: it is dead ahead of ErrPower")
	}
	if _, e := w.seal(0, 0, noughts); e != api.OK || w.s.Dead() {
		t.Errorf("P20.4: Seal needs no power: error %d", e)
	}
	w.commit("P20.5: the power has failed", p, api.ErrPower)
	for range 2 {
		if !w.s.Dead() || !alike(w.s.Super(), want) || !slices.Equal(w.s.Shelves(2), shelves) {
			t.Error("P20.3: a dead store tells something else")
		}
		if c, e := w.seal(0, 0, noughts); c != "" || e != api.ErrPower {
			t.Errorf("P20.4: dead: error %d", e)
		}
		if _, e := w.seal(-1, 99, ""); e != api.ErrPower {
			t.Errorf("P20.4: dead, and no such disk: error %d", e)
		}
		w.refused("P20.5: dead", func() {
			w.commit("P20.5: dead", p, api.ErrPower)
			w.commit("P20.5: dead, and no plan", commit.Plan{}, api.ErrPower)
			w.commit("P20.5: dead, and no such disk", commit.Plan{Super: p.Super, Blank: []int{-1}}, api.ErrPower)
		})
		w.both(func(b *bank.Bank) { b.Crash() })
	}
	w.open("P20.2: behind it", api.OK)
	w.commit("P20.5: behind it", w.plan(w.changes(0, 60)...), api.OK)
}

// P20.4: the cell is the slab's, of the store's next nonce; an error of layer 17 uses that up too. No disk is asked.
func TestSeal(t *testing.T) {
	w := opened(t, 5, 2, 4)
	w.kill(2)
	number := uint64(0)
	hold := func(what string, disk, slot int, plain string, want api.Errno) {
		t.Helper()
		c, e := w.seal(disk, slot, plain)
		if e != want || (c != "") != (want == api.OK) {
			t.Fatalf("P20.4: %s: %q, error %d, want %d", what, c, e, want)
		}
		if want == api.OK {
			epoch, n, _ := nonce.Read(c[:12])
			same, _ := slabOf(w.b, disk, 4, key).Seal(slot, c[:12], plain)
			if epoch != 2 || n != number || c != same || len(c) != 60 {
				t.Fatalf("P20.4: %s: the nonce is %d, %d; want 2, %d", what, epoch, n, number)
			}
		}
		number++
	}
	for disk := range 5 { // one is dead, one is Spare
		for slot := range 4 {
			hold("a chunk", disk, slot, someText(32, disk+10*slot), api.OK)
			hold("the same chunk", disk, slot, someText(32, disk+10*slot), api.OK)
		}
	}
	for _, n := range append(slices.Clone(ints), 4, 5, 16) {
		hold("no such slot", 0, n, noughts, api.ErrArg)
		hold("no such slot, and no block", 4, n, "", api.ErrArg)
	}
	for _, n := range append(slices.Clone(ints), 5, 6, 12) {
		hold("no such disk", n, 0, noughts, api.ErrForm)
		hold("no such disk and slot, and no block", n, n, "", api.ErrForm)
	}
	for _, n := range []int{0, 1, 31, 33, 64, 256 + 32, 1 << 16} {
		hold("no block", 1, 1, someText(n, n), api.ErrShape)
	}
	hold("a chunk behind errors", 3, 3, someText(32, 9), api.OK)
	w.commit("P20.5", w.plan(), api.OK)
	hold("a chunk behind a commit", 3, 3, someText(32, 9), api.OK)
	w.commit("P20.5: refused", commit.Plan{}, api.ErrForm)
	hold("a chunk behind a refused commit", 3, 3, someText(32, 9), api.OK)
}

// sourceOf tells a source that has but so many numbers left.
func sourceOf(epoch, left uint64) *nonce.Source {
	s, e := nonce.New(epoch, math.MaxUint32-left)
	if e != api.OK {
		panic("the measure is wrong: layer 16")
	}
	s.Next()
	return s
}

// useUp has the store's source tell but so many numbers more, as nobody can use up all of them.
func useUp(t *testing.T, s *commit.Store, left uint64) {
	t.Helper()
	v := reflect.ValueOf(s).Elem()
	for i := range v.NumField() {
		if f := v.Field(i); f.Type() == reflect.TypeFor[*nonce.Source]() {
			*(*nonce.Source)(f.UnsafePointer()) = *sourceOf(s.Super().Epoch, left)
			return
		}
	}
	t.Fatal("the measure is wrong: the store has no source")
}

// P20.4: a source that is used up is ErrUsed, ahead of layer 17's errors; a dead store is ErrPower, ahead of that. Commit needs no nonce, and Open tells a new source.
func TestSealUsedUp(t *testing.T) {
	for left := range uint64(4) {
		w := opened(t, 5, 2, 4)
		useUp(t, w.s, left)
		w.m.source = sourceOf(2, left)
		for i := range left {
			if c, e := w.seal(int(i%2)*99, 0, noughts); e != api.OK && e != api.ErrForm {
				t.Fatalf("P20.4: %d are left: %q, error %d", left-i, c, e)
			}
		}
		for _, n := range append(slices.Clone(ints), 0, 1) {
			if c, e := w.seal(n, n, noughts[:32*(n&1)]); c != "" || e != api.ErrUsed {
				t.Fatalf("P20.4: used up: %q, error %d", c, e)
			}
		}
		w.commit("P20.5: the source is used up", w.plan(changeOf(0, 0, "a cell")), api.OK)
		w.both(func(b *bank.Bank) { b.Cut(3) })
		w.commit("P20.5: the source is used up", w.plan(changeOf(0, 0, "another")), api.ErrPower)
		if _, e := w.seal(0, 0, noughts); e != api.ErrPower {
			t.Errorf("P20.4: used up and dead: error %d", e)
		}
		w.both(func(b *bank.Bank) { b.Crash() })
		w.open("P20.2", api.OK)
		if c, e := w.seal(0, 0, noughts); e != api.OK || c[:12] != "\x00\x00\x00\x00\x00\x00\x00\x03\x00\x00\x00\x00" {
			t.Errorf("P20.4: a new source: %q, error %d", c, e)
		}
	}
}
