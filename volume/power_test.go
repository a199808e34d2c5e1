package volume_test

import (
	"slices"
	"strconv"
	"testing"

	"cofferdam/anchor"
	"cofferdam/api"
	"cofferdam/bank"
	"cofferdam/volume"
)

// world is a volume that is mounted, whose picture was taken while nothing waited on its disks.
type world struct {
	t *testing.T
	b *bank.Bank
	a *anchor.Anchor
	v *volume.Volume
}

// picture is what lasts of a volume.
type picture struct {
	images [][]string
	dead   []bool
	count  uint64
	digest string
}

func pictureOf(w *twins) picture {
	s := shotOf(w.b, w.a)
	return picture{s.images, s.dead, s.count, s.digest}
}

// mount tells the volume of a picture, on disks of its own.
func (p picture) mount(t *testing.T) *world {
	t.Helper()
	w := &world{t: t, b: bank.New(len(p.images), diskCells), a: anchor.New()}
	for i, image := range p.images {
		w.b.Disk(i).Restore(image)
		if p.dead[i] {
			w.b.Disk(i).Fail()
		}
	}
	w.a.Set(p.count, p.digest)
	w.v = volume.New(w.b, w.a, key)
	if e := w.v.Mount(); e != api.OK {
		t.Fatalf("P21.1: a picture: Mount: error %d", e)
	}
	return w
}

// blocks tells the bytes of all blocks; of one that can't be had its error.
func (w *world) blocks() []string {
	var l []string
	for n := range w.v.Status().Blocks {
		s, e := w.v.Read(n)
		if e != api.OK {
			s = e.Error()
		}
		l = append(l, s)
	}
	return l
}

// write writes some blocks.
func (w *world) write(blocks []int, seed int) {
	w.t.Helper()
	for _, n := range blocks {
		if e := w.v.Write(n, blockOf(seed+n)); e != api.OK {
			w.t.Fatalf("P21.2: Write(%d): error %d", n, e)
		}
	}
}

// crash has the power come back; of each disk's writes that wait those are kept whose bits are set.
func (w *world) crash(set int) {
	var kept []bool
	for i := range 12 {
		kept = append(kept, set>>i&1 == 1)
	}
	w.b.Crash(slices.Repeat([][]bool{kept}, w.b.Size())...)
}

// waiting tells how many writes wait on the disk on which most do.
func (w *world) waiting() int {
	n := 0
	for i := range w.b.Size() {
		n = max(n, w.b.Disk(i).Waiting())
	}
	return n
}

// remount takes the volume out of use and mounts it.
func (w *world) remount(what string) {
	w.t.Helper()
	if e := w.v.Unmount(); e != api.OK {
		w.t.Fatalf("P21.1: %s: Unmount: error %d", what, e)
	}
	if e := w.v.Mount(); e != api.OK {
		w.t.Fatalf("P21.1: %s: Mount: error %d", what, e)
	}
}

// scene is a Sync: what stands ahead of it, and which blocks wait.
type scene struct {
	what   string
	from   picture
	blocks []int
}

// scenes are Syncs of all kinds.
func scenes(t *testing.T) []scene {
	base := filled(t, 6, 2, 2)
	whole := pictureOf(base)
	base.kill(3)
	base.tamper(firstCell+1, "spoilt", 0)
	broken := pictureOf(base)
	building := filled(t, 6, 2, 2)
	building.rebuild(1, 4)
	building.buildStep()
	grows := filled(t, 5, 2, 2)
	grows.grow(4)
	grows.widen()
	return []scene{
		{"a block", whole, []int{2}},
		{"a stripe", whole, []int{3, 2}},
		{"blocks of both stripes", whole, []int{3, 0}},
		{"all blocks", whole, []int{0, 1, 2, 3}},
		{"a disk is dead, a chunk spoilt", broken, []int{1, 2}},
		{"a disk is Building", pictureOf(building), []int{0, 3}},
		{"the volume grows", pictureOf(grows), []int{0, 3}},
	}
}

// ends tells the blocks ahead of the Sync and behind it, and how many steps it makes.
func (x scene) ends(t *testing.T) ([]string, []string, int) {
	t.Helper()
	w := x.from.mount(t)
	before := w.blocks()
	w.write(x.blocks, 200)
	steps := w.b.Steps()
	if e := w.v.Sync(); e != api.OK {
		t.Fatalf("P21.3: %s: error %d", x.what, e)
	}
	steps = w.b.Steps() - steps
	after := w.blocks()
	want := slices.Clone(before)
	for _, n := range x.blocks {
		want[n] = blockOf(200 + n)
	}
	if !slices.Equal(after, want) || slices.Equal(before, after) {
		t.Fatalf("P21.5: %s: the blocks are %q, want %q", x.what, after, want)
	}
	for n, s := range before {
		if s != blockOf(n+1) {
			t.Fatalf("P21.5: %s: the block %d is %q", x.what, n, s)
		}
	}
	return before, after, steps
}

// cut makes the Sync, with a power that fails behind some steps; it tells whether what waited lasts, as the anchor says.
func (x scene) cut(t *testing.T, steps, enough int) (*world, bool) {
	t.Helper()
	w := x.from.mount(t)
	w.write(x.blocks, 200)
	was := w.v.Store().Super().Count
	w.b.Cut(steps)
	e := w.v.Sync()
	if (e == api.OK) != (steps >= enough) || e != api.OK && e != api.ErrPower {
		t.Fatalf("P21.3: %s, %d of %d steps: error %d", x.what, steps, enough, e)
	}
	s := w.v.Status()
	if (e == api.OK) != (s.Pending == 0) || e != api.OK && (s.Pending != len(x.blocks) || steps > 0 && !s.Dead) {
		t.Fatalf("P21.3: %s, %d steps: error %d: Status: %v", x.what, steps, e, s)
	}
	count, _ := w.a.Get()
	if count != was && count != was+1 || e == api.OK && count == was {
		t.Fatalf("P21.3: %s, %d steps: error %d: the anchor's count is %d, behind %d", x.what, steps, e, count, was)
	}
	return w, count > was
}

// holdBlocks holds that all blocks are as they were ahead of the Sync, or all as behind it.
func (w *world) holdBlocks(what string, before, after []string, done bool) {
	w.t.Helper()
	want := before
	if done {
		want = after
	}
	if got := w.blocks(); !slices.Equal(got, want) {
		w.t.Fatalf("P21.5: %s, all lasts %v: the blocks are %q, want %q", what, done, got, want)
	}
	if n := w.v.Status().Pending; n != 0 {
		w.t.Fatalf("P21.1: %s: %d blocks wait behind Mount", what, n)
	}
}

// P21.5: the power fails at each step of a Sync, and each set of the writes that wait is kept: Mount finds all of what was there ahead, or all of what waited; the latter if Sync was OK. What is written and synced then is there too.
func TestPowerFails(t *testing.T) {
	for _, x := range scenes(t) {
		before, after, enough := x.ends(t)
		ends := map[bool]int{}
		for steps := range enough + 2 {
			for set, sets := 0, 1; set < sets; set++ {
				what := x.what + ", " + strconv.Itoa(steps) + " steps, kept " + strconv.Itoa(set)
				w, done := x.cut(t, steps, enough)
				sets = 1 << w.waiting()
				w.crash(set)
				w.remount(what)
				w.holdBlocks(what, before, after, done)
				ends[done]++
				w.again(what, x.blocks)
			}
		}
		if ends[false] == 0 || ends[true] < 2 {
			t.Errorf("%s: chance met %v", x.what, ends)
		}
	}
}

// again writes and syncs the blocks once more, and holds that they are there behind a Mount.
func (w *world) again(what string, blocks []int) {
	w.t.Helper()
	w.write(blocks, 300)
	if e := w.v.Sync(); e != api.OK {
		w.t.Fatalf("P21.3: %s: once more: error %d", what, e)
	}
	w.remount(what)
	for _, n := range blocks {
		if s, e := w.v.Read(n); s != blockOf(300+n) || e != api.OK {
			w.t.Fatalf("P21.5: %s: once more: the block %d is %q, error %d", what, n, s, e)
		}
	}
}

// P21.5: the power fails at a step of a Sync, and at each step of the Mount behind it; the next Mount finds the same.
func TestPowerFailsTwice(t *testing.T) {
	for _, x := range scenes(t) {
		before, after, enough := x.ends(t)
		for steps := 0; steps <= enough; steps += 5 {
			for again := 0; ; again++ {
				w, done := x.cut(t, steps, enough)
				w.crash(steps * 5)
				w.v.Unmount()
				w.b.Cut(again)
				e := w.v.Mount()
				if e == api.OK {
					w.crash(0) // nothing waits, but there may be no power left to read with
					w.holdBlocks(x.what, before, after, done)
					break
				}
				if e != api.ErrPower || w.v.Store() != nil {
					t.Fatalf("P21.1: %s: error %d", x.what, e)
				}
				w.crash(again*3 + steps)
				if e := w.v.Mount(); e != api.OK {
					t.Fatalf("P21.1: %s: error %d", x.what, e)
				}
				w.holdBlocks(x.what+", twice", before, after, done)
			}
		}
	}
}

// P21.5: the power fails while blocks wait, and no Sync is made: Mount finds what lasted.
func TestPowerFailsAheadOfSync(t *testing.T) {
	for _, x := range scenes(t) {
		w := x.from.mount(t)
		before := w.blocks()
		w.write(x.blocks, 200)
		w.b.Cut(0)
		w.crash(-1)
		w.remount(x.what)
		w.holdBlocks(x.what, before, nil, false)
	}
}
