package commit_test

import (
	"math"
	"reflect"
	"slices"
	"strconv"
	"strings"
	"testing"

	"cofferdam/anchor"
	"cofferdam/api"
	"cofferdam/bank"
	"cofferdam/codec"
	"cofferdam/commit"
	"cofferdam/intent"
	"cofferdam/layout"
	"cofferdam/sha"
	"cofferdam/slab"
	"cofferdam/stripe"
	"cofferdam/super"
)

// The document's numbers: how many data chunks a stripe has, at least and at most, how many chunks more it has, how many cells a disk has, at least, and where logs, pairs and cells stand on it.
const (
	least      = 2
	most       = 8
	more       = 2
	diskCells  = 140
	firstLog   = 2
	firstPair  = 100
	firstCell  = 120
	mostWrites = 95
	mostBytes  = 2048 - 16
	mostEpoch  = 1<<32 - 1
)

// sizes are the numbers of slots that there may be.
var sizes = []int{2, 4, 8, 16}

// ints are edges of ints, and such as become a disk, a stripe or a slot where they are cut to fewer bits or lose their sign.
var ints = []int{math.MinInt, math.MinInt + 1, math.MinInt32, -1 << 32, -1<<32 + 1, -256 + 1, -16, -2, -1, 1<<8 + 1, 1<<16 + 2, 1 << 31, 1 << 32, 1<<32 + 1, 1<<62 + 2, math.MaxInt - 1, math.MaxInt}

var (
	key     = strings.Repeat("k", 32)
	noughts = strings.Repeat("\x00", 32)
)

// someText looks like chance, and is the same in each run.
func someText(length, seed int) string {
	b := make([]byte, length)
	x := uint32(seed)*2246822519 + 777
	for i := range b {
		x = x*1664525 + 1013904223
		b[i] = byte(x >> 24)
	}
	return string(b)
}

// chunksOf tells the chunks of a stripe whose blocks hang on a seed; noughts of the seed 0.
func chunksOf(data, seed int) []string {
	blocks := slices.Repeat([]string{noughts}, data)
	for i := range blocks {
		if seed != 0 {
			blocks[i] = someText(32, 100*seed+i)
		}
	}
	l, e := stripe.Make(blocks)
	if e != api.OK {
		panic("layer 19: Make")
	}
	return l
}

// shot is all that a bank and an anchor show of themselves.
type shot struct {
	images  [][]string
	waiting []int
	dead    []bool
	steps   int
	count   uint64
	digest  string
}

func shotOf(b *bank.Bank, a *anchor.Anchor) shot {
	s := shot{steps: b.Steps()}
	s.count, s.digest = a.Get()
	for i := range b.Size() {
		d := b.Disk(i)
		s.images = append(s.images, d.Image())
		s.waiting = append(s.waiting, d.Waiting())
		s.dead = append(s.dead, d.Dead())
	}
	return s
}

// differs tells where two shots aren't the same.
func (s shot) differs(o shot) string {
	if s.count != o.count || s.digest != o.digest || s.steps != o.steps {
		return "the anchor's count " + strconv.Itoa(int(s.count)) + ", " + strconv.Itoa(s.steps) + " steps; want " + strconv.Itoa(int(o.count)) + ", " + strconv.Itoa(o.steps) + " (or another digest)"
	}
	for i := range s.images {
		where := "disk " + strconv.Itoa(i)
		if s.waiting[i] != o.waiting[i] || s.dead[i] != o.dead[i] || len(s.images[i]) != len(o.images[i]) {
			return where + ": " + strconv.Itoa(s.waiting[i]) + " wait, want " + strconv.Itoa(o.waiting[i]) + " (or it is dead, or small)"
		}
		for at := range s.images[i] {
			if s.images[i][at] != o.images[i][at] {
				return where + ": cell " + strconv.Itoa(at)
			}
		}
	}
	return ""
}

// twins are two banks and anchors to which the same is done, once by the program and once by the model.
type twins struct {
	t    *testing.T
	b, c *bank.Bank // the program's, the model's
	a, d *anchor.Anchor
	s    *commit.Store
	m    *model
}

func newTwins(t *testing.T, disks int) *twins {
	return &twins{t: t, b: bank.New(disks, diskCells), c: bank.New(disks, diskCells), a: anchor.New(), d: anchor.New()}
}

// opened tells twins with a volume that is open.
func opened(t *testing.T, disks, data, slots int) *twins {
	t.Helper()
	w := newTwins(t, disks)
	w.format("Format", data, slots, api.OK)
	w.open("Open", api.OK)
	return w
}

// filled tells twins with a volume each stripe of which has the blocks of its number and 1 as a seed.
func filled(t *testing.T, disks, data, slots int) *twins {
	t.Helper()
	w := opened(t, disks, data, slots)
	var l []commit.Change
	for n := range slots {
		l = append(l, w.changes(n, n+1)...)
	}
	w.commit("Commit of all stripes", commit.Plan{Super: w.s.Super(), Changes: l}, api.OK)
	return w
}

// both does something to both banks.
func (w *twins) both(do func(b *bank.Bank)) {
	do(w.b)
	do(w.c)
}

// kill lets disks fail.
func (w *twins) kill(disks ...int) {
	w.both(func(b *bank.Bank) {
		for _, i := range disks {
			b.Disk(i).Fail()
		}
	})
}

// tamper puts other bytes into a cell of some disks.
func (w *twins) tamper(at int, s string, disks ...int) {
	w.both(func(b *bank.Bank) {
		for _, i := range disks {
			b.Disk(i).Tamper(at, s)
		}
	})
}

// change changes a cell of some disks, whatever it had.
func (w *twins) change(at int, disks ...int) {
	for _, i := range disks {
		had, _ := w.b.Disk(i).Read(at)
		w.tamper(at, "x"+had, i)
	}
}

// whatever stands for the error that the model has.
const whatever = api.Errno(-1)

// agree holds that the program's error is the model's, and the one that is wanted; and that all that both show is the same. It tells that error.
func (w *twins) agree(what string, e, f, want api.Errno) api.Errno {
	w.t.Helper()
	if e != f || want != whatever && e != want {
		w.t.Fatalf("%s: error %d, the document's %d, want %d", what, e, f, want)
	}
	if diff := shotOf(w.b, w.a).differs(shotOf(w.c, w.d)); diff != "" {
		w.t.Fatalf("%s: error %d: %s", what, e, diff)
	}
	w.same(what)
	return e
}

// same holds that the store shows what the model's does; there is none where the model has none.
func (w *twins) same(what string) {
	w.t.Helper()
	if (w.s == nil) != (w.m == nil) {
		w.t.Fatalf("%s: a store where there is none, or none where there is one", what)
	}
	if w.m == nil {
		return
	}
	holdStore(w.t, what, w.s, w.m.record, w.m.dead)
	for n := -1; n <= w.m.record.Slots; n++ {
		got, want := w.s.Shelves(n), w.m.shelves(w.b, n)
		if !slices.Equal(got, want) {
			w.t.Fatalf("P20.3: %s: Shelves(%d): %v, want %v", what, n, got, want)
		}
	}
}

// holdStore holds what a store tells of its record, that it is told in lists of its own, and whether it is dead.
func holdStore(t *testing.T, what string, s *commit.Store, want super.Super, dead bool) {
	t.Helper()
	for range 2 {
		r := s.Super()
		if !alike(r, want) {
			t.Fatalf("P20.3: %s: Super: %v, want %v", what, r, want)
		}
		clear(r.Seats[:cap(r.Seats)])
		clear(r.Members[:cap(r.Members)])
	}
	if l := s.Layout(); l != (layout.Layout{Data: want.Data, Slots: want.Slots, Mark: want.Mark, Growing: want.Growing}) {
		t.Fatalf("P20.3: %s: Layout: %v of %v", what, l, want)
	}
	if s.Dead() != dead {
		t.Fatalf("P20.3: %s: Dead: %v", what, s.Dead())
	}
}

// alike: are two records the same?
func alike(a, b super.Super) bool {
	lists := slices.Equal(a.Seats, b.Seats) && slices.Equal(a.Members, b.Members)
	a.Seats, a.Members, b.Seats, b.Members = nil, nil, nil, nil
	return lists && reflect.DeepEqual(a, b)
}

// format makes a volume.
func (w *twins) format(what string, data, slots int, want api.Errno) api.Errno {
	w.t.Helper()
	e := commit.Format(w.b, w.a, key, data, slots)
	return w.agree(what, e, modelFormat(w.c, w.d, key, data, slots), want)
}

// open opens the volume, if it can be opened; else there is no store.
func (w *twins) open(what string, want api.Errno) api.Errno {
	w.t.Helper()
	var e, f api.Errno
	w.s, e = commit.Open(w.b, w.a, key)
	w.m, f = modelOpen(w.c, w.d, key)
	return w.agree(what, e, f, want)
}

// seal makes the cell of a chunk.
func (w *twins) seal(disk, slot int, plain string) (string, api.Errno) {
	w.t.Helper()
	was := shotOf(w.b, w.a)
	c, e := w.s.Seal(disk, slot, plain)
	want, f := w.m.seal(disk, slot, plain)
	if c != want || e != f {
		w.t.Fatalf("P20.4: Seal(%d, %d): %x, error %d; want %x, error %d", disk, slot, c, e, want, f)
	}
	if diff := shotOf(w.b, w.a).differs(was); diff != "" {
		w.t.Fatalf("P20.4: Seal(%d, %d): %s", disk, slot, diff)
	}
	return c, e
}

// changes tells those by which a stripe has the blocks of a seed, on all its seats.
func (w *twins) changes(n, seed int) []commit.Change {
	w.t.Helper()
	l := w.s.Layout()
	var out []commit.Change
	for i, c := range chunksOf(l.Wide(n), seed) {
		seat, _ := l.Seat(n, i)
		disk := w.s.Super().Seats[seat]
		cell, e := w.seal(disk, n, c)
		if e != api.OK {
			w.t.Fatalf("P20.4: Seal(%d, %d): error %d", disk, n, e)
		}
		out = append(out, changeOf(disk, n, cell))
	}
	return out
}

func changeOf(disk, slot int, cell string) commit.Change {
	return commit.Change{Disk: disk, Change: slab.Change{Slot: slot, Cell: cell}}
}

// plan tells one on the store's record.
func (w *twins) plan(l ...commit.Change) commit.Plan {
	return commit.Plan{Super: w.s.Super(), Changes: l}
}

// commit makes a commit, and holds that the plan is as it was, and that what becomes of it makes no difference to the store.
func (w *twins) commit(what string, p commit.Plan, want api.Errno) api.Errno {
	w.t.Helper()
	in := p
	var holds []func()
	in.Blank = guarded(w.t, what, p.Blank, &holds, 0, 1, 2)
	in.Changes = guarded(w.t, what, p.Changes, &holds, changeOf(0, 0, "guard"), changeOf(1, 1, "guard"))
	in.Super.Seats = guarded(w.t, what, p.Super.Seats, &holds, 0, 1, 11)
	in.Super.Members = guarded(w.t, what, p.Super.Members, &holds, super.Member{State: super.Active}, super.Member{})
	e := w.s.Commit(in)
	for _, hold := range holds {
		hold()
	}
	f := w.m.commit(p)
	clear(in.Blank)
	clear(in.Changes)
	clear(in.Super.Seats)
	clear(in.Super.Members)
	return w.agree(what, e, f, want)
}

// guarded tells the list with more behind its length, and adds what holds that all of it is as it was.
func guarded[T comparable](t *testing.T, what string, l []T, holds *[]func(), guards ...T) []T {
	whole := append(slices.Clone(l), guards...)
	was := slices.Clone(whole)
	*holds = append(*holds, func() {
		t.Helper()
		if !slices.Equal(whole, was) {
			t.Fatalf("rule 4: %s: what was handed in has changed", what)
		}
	})
	return whole[:len(l)]
}

// holdStripe holds that a stripe has the blocks of a seed, and which of its chunks can't be had themselves.
func (w *twins) holdStripe(what string, n, seed int, lost ...int) {
	w.t.Helper()
	all, l, e := stripe.Load(w.s.Shelves(n), n)
	want := chunksOf(w.s.Layout().Wide(n), seed)
	if e != api.OK || !slices.Equal(all, want) || !slices.Equal(l, lost) {
		w.t.Fatalf("%s: stripe %d: %.40q, without %v, error %d; want %.40q, without %v", what, n, all, l, e, want, lost)
	}
}

// states tells those of a store's members, as digits.
func (w *twins) states() string {
	s := ""
	for _, m := range w.s.Super().Members {
		s += strconv.Itoa(int(m.State))
	}
	return s
}

// holdStates holds them.
func (w *twins) holdStates(what, want string) {
	w.t.Helper()
	if s := w.states(); s != want {
		w.t.Fatalf("P20.5: %s: the states are %s, want %s", what, s, want)
	}
}

// refused holds that something leaves all as it was: disks, steps, the anchor, the store.
func (w *twins) refused(what string, do func()) {
	w.t.Helper()
	was, r, dead := shotOf(w.b, w.a), w.s.Super(), w.s.Dead()
	do()
	if diff := shotOf(w.b, w.a).differs(was); diff != "" {
		w.t.Fatalf("rule 3: %s: %s", what, diff)
	}
	holdStore(w.t, what, w.s, r, dead)
}

// The limits are the document's.
func TestLimits(t *testing.T) {
	if api.MaxData != most || api.Cells != diskCells || api.LogAt != firstLog || api.TreeAt != firstPair || api.ChunkAt != firstCell || api.MaxLog != mostWrites+1 || api.MaxCell != mostBytes+16 || api.MaxEpoch != mostEpoch {
		t.Error("the limits of api aren't those that are tested")
	}
	if _, d, _ := intent.Put(nil); d != none {
		t.Error("layer 15: Empty isn't the digest of no writes")
	}
}

// The document's example: Format of a bank of 5 disks with data 2: the disk 4 is Spare; Open: Count 2, Epoch 2.
func TestExample(t *testing.T) {
	for _, slots := range sizes {
		w := opened(t, 5, 2, slots)
		if r := w.s.Super(); r.Count != 2 || r.Epoch != 2 || r.Data != 2 || r.Slots != slots {
			t.Errorf("the example: %v", r)
		}
		w.holdStates("the example", "11110")
	}
}

// digestOf tells the digest of a log's cells, whatever these are.
func digestOf(cells []string) string {
	all := ""
	for _, c := range cells {
		all += codec.Text(c)
	}
	return sha.Top(all)
}
