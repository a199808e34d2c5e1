package volume_test

import (
	"math"
	"reflect"
	"slices"
	"strconv"
	"strings"
	"testing"

	"cofferdam/anchor"
	"cofferdam/api"
	"cofferdam/bank"
	"cofferdam/commit"
	"cofferdam/super"
	"cofferdam/volume"
)

// The document's numbers: how many data chunks a stripe has, at least and at most, how many chunks more it has, how many bytes a block has, how many cells a disk has, and where pairs and cells stand on it.
const (
	least     = 2
	most      = 8
	more      = 2
	blockSize = 32
	diskCells = 140
	firstPair = 100
	firstCell = 120
)

// sizes are the numbers of slots that there may be.
var sizes = []int{2, 4, 8, 16}

// ints are edges of ints, and such as become a block or a stripe where they are cut to fewer bits or lose their sign.
var ints = []int{math.MinInt, math.MinInt + 1, math.MinInt32, -1 << 32, -1<<32 + 1, -256 + 1, -16, -2, -1, 1<<8 + 1, 1<<16 + 2, 1 << 31, 1 << 32, 1<<32 + 1, 1<<62 + 2, math.MaxInt - 1, math.MaxInt}

var (
	key     = strings.Repeat("k", 32)
	noughts = strings.Repeat("\x00", 32)
)

// someText looks like chance, and is the same in each run.
func someText(length, seed int) string {
	b := make([]byte, length)
	x := uint32(seed)*2246822519 + 777
	for i := range b {
		x = x*1664525 + 1013904223
		b[i] = byte(x >> 24)
	}
	return string(b)
}

// blockOf tells the bytes of a block that hang on a seed.
func blockOf(seed int) string {
	return someText(blockSize, seed)
}

// shot is all that a bank and an anchor show of themselves.
type shot struct {
	images  [][]string
	waiting []int
	dead    []bool
	steps   int
	count   uint64
	digest  string
}

func shotOf(b *bank.Bank, a *anchor.Anchor) shot {
	s := shot{steps: b.Steps()}
	s.count, s.digest = a.Get()
	for i := range b.Size() {
		d := b.Disk(i)
		s.images = append(s.images, d.Image())
		s.waiting = append(s.waiting, d.Waiting())
		s.dead = append(s.dead, d.Dead())
	}
	return s
}

// differs tells where two shots aren't the same.
func (s shot) differs(o shot) string {
	if s.count != o.count || s.digest != o.digest || s.steps != o.steps {
		return "the anchor's count " + strconv.Itoa(int(s.count)) + ", " + strconv.Itoa(s.steps) + " steps; want " + strconv.Itoa(int(o.count)) + ", " + strconv.Itoa(o.steps) + " (or another digest)"
	}
	for i := range s.images {
		where := "disk " + strconv.Itoa(i)
		if s.waiting[i] != o.waiting[i] || s.dead[i] != o.dead[i] || len(s.images[i]) != len(o.images[i]) {
			return where + ": " + strconv.Itoa(s.waiting[i]) + " wait, want " + strconv.Itoa(o.waiting[i]) + " (or it is dead, or small)"
		}
		for at := range s.images[i] {
			if s.images[i][at] != o.images[i][at] {
				return where + ": cell " + strconv.Itoa(at)
			}
		}
	}
	return ""
}

// sameStatus: are two the same?
func sameStatus(a, b volume.Status) bool {
	states := slices.Equal(a.States, b.States)
	a.States, b.States = nil, nil
	return states && reflect.DeepEqual(a, b)
}

// alike: are two records the same?
func alike(a, b super.Super) bool {
	lists := slices.Equal(a.Seats, b.Seats) && slices.Equal(a.Members, b.Members)
	a.Seats, a.Members, b.Seats, b.Members = nil, nil, nil, nil
	return lists && reflect.DeepEqual(a, b)
}

// twins are two banks and anchors to which the same is done, once by the program and once by the model.
type twins struct {
	t    *testing.T
	b, c *bank.Bank // the program's, the model's
	a, d *anchor.Anchor
	v    *volume.Volume
	m    *model
}

func newTwins(t *testing.T, disks int) *twins {
	w := &twins{t: t, b: bank.New(disks, diskCells), c: bank.New(disks, diskCells), a: anchor.New(), d: anchor.New()}
	w.v = volume.New(w.b, w.a, key)
	w.m = &model{b: w.c, a: w.d, key: key}
	return w
}

// mounted tells twins with a new volume that is mounted.
func mounted(t *testing.T, disks, data, slots int) *twins {
	t.Helper()
	w := newTwins(t, disks)
	w.format("Format", data, slots, api.OK)
	w.mount("Mount", api.OK)
	return w
}

// filled tells twins with a volume each block of which has its number and 1 as a seed, and lasts.
func filled(t *testing.T, disks, data, slots int) *twins {
	t.Helper()
	w := mounted(t, disks, data, slots)
	for n := range data * slots {
		w.write("Write", n, blockOf(n+1), api.OK)
	}
	w.sync("Sync of all blocks", api.OK)
	return w
}

// both does something to both banks.
func (w *twins) both(do func(b *bank.Bank)) {
	do(w.b)
	do(w.c)
}

// cut has the power fail behind so many steps.
func (w *twins) cut(steps int) {
	w.both(func(b *bank.Bank) { b.Cut(steps) })
}

// crash has the power come back; what waited on the disks is lost, but for what is kept.
func (w *twins) crash(kept ...[]bool) {
	w.both(func(b *bank.Bank) { b.Crash(kept...) })
}

// kill lets disks fail.
func (w *twins) kill(disks ...int) {
	w.both(func(b *bank.Bank) {
		for _, i := range disks {
			b.Disk(i).Fail()
		}
	})
}

// tamper puts other bytes into a cell of some disks.
func (w *twins) tamper(at int, s string, disks ...int) {
	w.both(func(b *bank.Bank) {
		for _, i := range disks {
			b.Disk(i).Tamper(at, s)
		}
	})
}

// whatever stands for the error that the model has.
const whatever = api.Errno(-1)

// agree holds that the program's error is the model's, and the one that is wanted; and that all that both show is the same. It tells that error.
func (w *twins) agree(what string, e, f, want api.Errno) api.Errno {
	w.t.Helper()
	if e != f || want != whatever && e != want {
		w.t.Fatalf("%s: error %d, the document's %d, want %d", what, e, f, want)
	}
	if diff := shotOf(w.b, w.a).differs(shotOf(w.c, w.d)); diff != "" {
		w.t.Fatalf("%s: error %d: %s", what, e, diff)
	}
	w.same(what)
	return e
}

// same holds that the volume shows what the model does: its status, told in a list of its own, and its store.
func (w *twins) same(what string) {
	w.t.Helper()
	want := w.m.status()
	for range 2 {
		s := w.v.Status()
		if !sameStatus(s, want) {
			w.t.Fatalf("P21.4: %s: Status: %v, want %v", what, s, want)
		}
		clear(s.States[:cap(s.States)])
	}
	s := w.v.Store()
	if (s == nil) != (w.m.s == nil) {
		w.t.Fatalf("P21.4: %s: a store where there is none, or none where there is one", what)
	}
	if s != nil && (!alike(s.Super(), w.m.s.Super()) || s.Dead() != w.m.s.Dead()) {
		w.t.Fatalf("%s: the store has %v, Dead %v; want %v", what, s.Super(), s.Dead(), w.m.s.Super())
	}
}

// format makes the volume anew.
func (w *twins) format(what string, data, slots int, want api.Errno) api.Errno {
	w.t.Helper()
	return w.agree(what, w.v.Format(data, slots), w.m.format(data, slots), want)
}

func (w *twins) mount(what string, want api.Errno) api.Errno {
	w.t.Helper()
	return w.agree(what, w.v.Mount(), w.m.mount(), want)
}

func (w *twins) unmount(what string, want api.Errno) api.Errno {
	w.t.Helper()
	return w.agree(what, w.v.Unmount(), w.m.unmount(), want)
}

// remount takes the volume out of use, and mounts it once more.
func (w *twins) remount(what string) {
	w.t.Helper()
	w.unmount(what, api.OK)
	w.mount(what, api.OK)
}

func (w *twins) write(what string, block int, data string, want api.Errno) api.Errno {
	w.t.Helper()
	return w.agree(what, w.v.Write(block, data), w.m.write(block, data), want)
}

func (w *twins) sync(what string, want api.Errno) api.Errno {
	w.t.Helper()
	return w.agree(what, w.v.Sync(), w.m.sync(), want)
}

// read reads a block, and holds that nothing is changed by that.
func (w *twins) read(what string, block int) (string, api.Errno) {
	w.t.Helper()
	was, status := shotOf(w.b, w.a), w.v.Status()
	s, e := w.v.Read(block)
	want, f := w.m.read(block)
	if s != want || e != f || e != api.OK && s != "" {
		w.t.Fatalf("P21.2: %s: Read(%d): %q, error %d; want %q, error %d", what, block, s, e, want, f)
	}
	if diff := shotOf(w.b, w.a).differs(was); diff != "" || !sameStatus(w.v.Status(), status) {
		w.t.Fatalf("P21.2: %s: Read(%d) has changed something: %s", what, block, diff)
	}
	return s, e
}

// hold holds that a block has these bytes.
func (w *twins) hold(what string, block int, want string) {
	w.t.Helper()
	if s, e := w.read(what, block); s != want || e != api.OK {
		w.t.Fatalf("P21.5: %s: the block %d is %q, error %d; want %q", what, block, s, e, want)
	}
}

// holdError holds that Read of a block has an error.
func (w *twins) holdError(what string, block int, want api.Errno) {
	w.t.Helper()
	if s, e := w.read(what, block); s != "" || e != want {
		w.t.Fatalf("P21.2: %s: the block %d is %q, error %d; want error %d", what, block, s, e, want)
	}
}

// holdFilled holds that all blocks are as filled made them, but for those that are told.
func (w *twins) holdFilled(what string, but map[int]string) {
	w.t.Helper()
	for n := range w.v.Status().Blocks {
		if s, ok := but[n]; ok {
			w.hold(what, n, s)
		} else {
			w.hold(what, n, blockOf(n+1))
		}
	}
}

// holdPending holds how many blocks wait.
func (w *twins) holdPending(what string, want int) {
	w.t.Helper()
	if n := w.v.Status().Pending; n != want {
		w.t.Fatalf("P21.4: %s: %d blocks wait, want %d", what, n, want)
	}
}

// commit makes a commit on both stores, as whoever has the volume's store may.
func (w *twins) commit(what string, plan func(s *commit.Store) commit.Plan) {
	w.t.Helper()
	e := w.v.Store().Commit(plan(w.v.Store()))
	f := w.m.s.Commit(plan(w.m.s))
	w.agree(what, e, f, api.OK)
}

// refused holds that something leaves all as it was: disks, steps, the anchor, what the volume tells of itself.
func (w *twins) refused(what string, do func()) {
	w.t.Helper()
	was, status := shotOf(w.b, w.a), w.v.Status()
	do()
	if diff := shotOf(w.b, w.a).differs(was); diff != "" {
		w.t.Fatalf("rule 3: %s: %s", what, diff)
	}
	if s := w.v.Status(); !sameStatus(s, status) {
		w.t.Fatalf("rule 3: %s: Status: %v, behind %v", what, s, status)
	}
}

// spent holds how many steps something makes.
func (w *twins) spent(what string, want int, do func()) {
	w.t.Helper()
	before := w.b.Steps()
	do()
	if n := w.b.Steps() - before; n != want {
		w.t.Fatalf("%s: %d steps, want %d", what, n, want)
	}
}

// The limits are the document's.
func TestLimits(t *testing.T) {
	if api.MaxData != most || api.Block != blockSize || api.Cells != diskCells || api.TreeAt != firstPair || api.ChunkAt != firstCell || api.Key != len(key) {
		t.Error("the limits of api aren't those that are tested")
	}
}

// The document's example: Format(2, 4), Mount, Write(3, ..), Read(3) tells it; Unmount, Mount: Read(3) is 32 noughts again.
func TestExample(t *testing.T) {
	for disks := 4; disks <= 12; disks++ {
		w := newTwins(t, disks)
		w.format("the example", 2, 4, api.OK)
		w.mount("the example", api.OK)
		w.write("the example", 3, blockOf(3), api.OK)
		w.hold("the example", 3, blockOf(3))
		w.unmount("the example", api.OK)
		w.mount("the example", api.OK)
		w.hold("the example", 3, noughts)
	}
}
