package volume_test

import (
	"math"
	"reflect"
	"slices"

	"cofferdam/api"
	"cofferdam/commit"
	"cofferdam/nonce"
	"cofferdam/stripe"
	"cofferdam/super"
	"cofferdam/volume"
)

// What follows are commits that whoever has a volume's store may make: disks are built anew, the volume grows, while blocks wait.

// planOf tells a plan on a store's record that asks for nothing else.
func planOf(s *commit.Store) commit.Plan {
	return commit.Plan{Super: s.Super()}
}

// must tells what is answered beside OK.
func must[T any](x T, e api.Errno) T {
	if e != api.OK {
		panic("the measure is wrong: " + e.Error())
	}
	return x
}

// isUsed: is a stripe's chunk on that disk for use?
func isUsed(r super.Super, disk, t int) bool {
	m := r.Members[disk]
	return m.State == super.Active || m.State == super.Building && t < r.Built
}

// rebuild lets a disk fail, and has a spare sit on its seat.
func (w *twins) rebuild(disk, spare int) {
	w.t.Helper()
	w.commit("a spare is Building", func(s *commit.Store) commit.Plan {
		p := planOf(s)
		p.Super.Seats[slices.Index(p.Super.Seats, disk)] = spare
		p.Super.Members[disk].State = super.Failed
		p.Super.Members[spare].State, p.Super.Built = super.Building, 0
		p.Blank = []int{spare}
		return p
	})
}

// building tells which member is Building; -1, if none is.
func building(r super.Super) int {
	return slices.IndexFunc(r.Members, func(m super.Member) bool { return m.State == super.Building })
}

// buildStep builds a stripe more of the member that is Building.
func (w *twins) buildStep() {
	w.t.Helper()
	w.commit("a stripe is built", func(s *commit.Store) commit.Plan {
		p := planOf(s)
		r := &p.Super
		disk, t := building(*r), r.Built
		if chunk, ok := s.Layout().Chunk(t, slices.Index(r.Seats, disk)); ok {
			all, _, e := stripe.Load(s.Shelves(t), t)
			cell := must(s.Seal(disk, t, must(all, e)[chunk]))
			p.Changes = []commit.Change{changeOf(disk, t, cell)}
		}
		r.Built++
		if r.Built == r.Slots {
			r.Built, r.Members[disk].State = 0, super.Active
		}
		return p
	})
}

// grow has a spare sit on a new seat.
func (w *twins) grow(spare int) {
	w.t.Helper()
	w.commit("the volume grows", func(s *commit.Store) commit.Plan {
		p := planOf(s)
		p.Super.Seats = append(p.Super.Seats, spare)
		p.Super.Members[spare].State, p.Super.Growing, p.Super.Mark = super.Active, true, 0
		p.Blank = []int{spare}
		return p
	})
}

// widen lays a stripe more wider.
func (w *twins) widen() {
	w.t.Helper()
	w.commit("a stripe is wider", func(s *commit.Store) commit.Plan {
		p, l := planOf(s), s.Layout()
		next := must(l.Step())
		var blocks []string
		for _, n := range must(l.Moves()) {
			block := noughts
			if n < l.Blocks() {
				t, chunk, _ := l.Find(n)
				block = must(stripe.One(s.Shelves(t), t, chunk))
			}
			blocks = append(blocks, block)
		}
		for i, c := range must(stripe.Make(blocks)) {
			disk := p.Super.Seats[must(next.Seat(l.Mark, i))]
			if isUsed(p.Super, disk, l.Mark) {
				p.Changes = append(p.Changes, changeOf(disk, l.Mark, must(s.Seal(disk, l.Mark, c))))
			}
		}
		p.Super.Data, p.Super.Mark, p.Super.Growing = next.Data, next.Mark, next.Growing
		return p
	})
}

// smaller tells a plan by which a stripe has a data chunk less; what stands on the disks isn't what it should be then.
func smaller(s *commit.Store) commit.Plan {
	p := planOf(s)
	r := &p.Super
	last := r.Seats[len(r.Seats)-1]
	r.Data, r.Seats, r.Members[last].State = r.Data-1, r.Seats[:len(r.Seats)-1], super.Spare
	return p
}

// another tells a volume on the same bank and anchor, and its model.
func (w *twins) another() (*volume.Volume, *model) {
	return volume.New(w.b, w.a, key), &model{b: w.c, a: w.d, key: key}
}

// sourceOf tells a source that has but so many numbers left.
func sourceOf(epoch, left uint64) *nonce.Source {
	s := must(nonce.New(epoch, math.MaxUint32-left))
	s.Next()
	return s
}

// useUp has both stores' sources tell but so many numbers more, as nobody can use up all of them.
func (w *twins) useUp(left uint64) {
	w.t.Helper()
	for _, s := range []*commit.Store{w.v.Store(), w.m.s} {
		found := false
		v := reflect.ValueOf(s).Elem()
		for i := range v.NumField() {
			if f := v.Field(i); f.Type() == reflect.TypeFor[*nonce.Source]() {
				*(*nonce.Source)(f.UnsafePointer()) = *sourceOf(s.Super().Epoch, left)
				found = true
			}
		}
		if !found {
			w.t.Fatal("the measure is wrong: the store has no source")
		}
	}
}
