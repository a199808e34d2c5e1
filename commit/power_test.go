package commit_test

import (
	"encoding/hex"
	"slices"
	"strconv"
	"testing"

	"cofferdam/anchor"
	"cofferdam/api"
	"cofferdam/bank"
	"cofferdam/commit"
	"cofferdam/stripe"
	"cofferdam/super"
)

// world is a volume that is open, whose picture was taken while nothing waited.
type world struct {
	t *testing.T
	b *bank.Bank
	a *anchor.Anchor
	s *commit.Store
}

// picture is what lasts of a volume.
type picture struct {
	images [][]string
	dead   []bool
	count  uint64
	digest string
}

func pictureOf(w *twins) picture {
	s := shotOf(w.b, w.a)
	return picture{s.images, s.dead, s.count, s.digest}
}

// open tells the volume of a picture, on disks of its own.
func (p picture) open(t *testing.T) *world {
	t.Helper()
	w := &world{t: t, b: bank.New(len(p.images), diskCells), a: anchor.New()}
	for i, image := range p.images {
		w.b.Disk(i).Restore(image)
		if p.dead[i] {
			w.b.Disk(i).Fail()
		}
	}
	w.a.Set(p.count, p.digest)
	w.open("P20.2: a picture", api.OK)
	return w
}

func (w *world) open(what string, want api.Errno) {
	w.t.Helper()
	s, e := commit.Open(w.b, w.a, key)
	if e != want || (s != nil) != (want == api.OK) {
		w.t.Fatalf("%s: Open: error %d, want %d", what, e, want)
	}
	w.s = s
}

// changes tells those by which a stripe has the blocks of a seed, on all its seats.
func (w *world) changes(n, seed int) []commit.Change {
	w.t.Helper()
	l, r := w.s.Layout(), w.s.Super()
	var out []commit.Change
	for i, c := range chunksOf(l.Wide(n), seed) {
		seat, _ := l.Seat(n, i)
		cell, e := w.s.Seal(r.Seats[seat], n, c)
		if e != api.OK {
			w.t.Fatalf("P20.4: error %d", e)
		}
		out = append(out, changeOf(r.Seats[seat], n, cell))
	}
	return out
}

// crash has the power fail; of each disk's writes that wait those are kept whose bits are set.
func (w *world) crash(set int) {
	var kept []bool
	for i := range 10 {
		kept = append(kept, set>>i&1 == 1)
	}
	w.b.Crash(slices.Repeat([][]bool{kept}, w.b.Size())...)
}

// waiting tells how many writes wait on the disk on which most do.
func (w *world) waiting() int {
	n := 0
	for i := range w.b.Size() {
		n = max(n, w.b.Disk(i).Waiting())
	}
	return n
}

// had is what a store tells of its volume, but for Count and Epoch, and for logs, which were done or weren't.
type had struct {
	record super.Super
	chunks []string // each stripe's chunks, and how many of them are lost; or its error
}

func hadOf(s *commit.Store) had {
	h := had{record: s.Super()}
	h.record.Count, h.record.Epoch = 0, 0
	for i := range h.record.Members {
		h.record.Members[i].Log = none
	}
	for n := range h.record.Slots {
		all, lost, e := stripe.Load(s.Shelves(n), n)
		h.chunks = append(append(h.chunks, all...), strconv.Itoa(len(lost))+" "+e.Error())
	}
	return h
}

func (h had) is(o had) bool {
	return alike(h.record, o.record) && slices.Equal(h.chunks, o.chunks)
}

// brief tells what isn't too much to be looked at.
func (h had) brief() string {
	s := "Built " + strconv.Itoa(h.record.Built)
	for _, m := range h.record.Members {
		s += " " + strconv.Itoa(int(m.State)) + " " + hex.EncodeToString([]byte(m.Top[:3]))
	}
	for _, c := range h.chunks {
		s += " " + strconv.Quote(c[:min(len(c), 12)])
	}
	return s
}

// scene is a commit: what stands ahead of it, and its plan.
type scene struct {
	what string
	from picture
	plan func(w *world) commit.Plan
}

// scenes are commits of all kinds.
func scenes(t *testing.T) []scene {
	base := filled(t, 6, 2, 2)
	whole := pictureOf(base)
	base.kill(3)
	broken := pictureOf(base)
	building := filled(t, 6, 2, 2)
	p := building.plan()
	building.commit("P20.5: Building", *rebuilt(&p, 1, 4), api.OK)
	return []scene{
		{"a stripe", whole, func(w *world) commit.Plan { return commit.Plan{Super: w.s.Super(), Changes: w.changes(1, 80)} }},
		{"both stripes", whole, func(w *world) commit.Plan {
			return commit.Plan{Super: w.s.Super(), Changes: slices.Concat(w.changes(0, 80), w.changes(1, 81))}
		}},
		{"a disk fails", broken, func(w *world) commit.Plan { return commit.Plan{Super: w.s.Super(), Changes: w.changes(0, 80)} }},
		{"a spare is Building", whole, func(w *world) commit.Plan {
			p := commit.Plan{Super: w.s.Super()}
			return *rebuilt(&p, 2, 5)
		}},
		{"it is built", pictureOf(building), func(w *world) commit.Plan {
			p := commit.Plan{Super: w.s.Super(), Changes: w.changes(0, 1)}
			p.Super.Built = 1
			return p
		}},
		{"the volume grows", whole, func(w *world) commit.Plan {
			p := commit.Plan{Super: w.s.Super(), Changes: w.changes(1, 80)}
			return *grown(&p, 4)
		}},
		{"nothing", whole, func(w *world) commit.Plan { return commit.Plan{Super: w.s.Super()} }},
	}
}

// ends tells what is had ahead of the commit and behind it, and how many steps it makes.
func (x scene) ends(t *testing.T) (had, had, int) {
	t.Helper()
	w := x.from.open(t)
	before := hadOf(w.s)
	p := x.plan(w)
	steps := w.b.Steps()
	if e := w.s.Commit(p); e != api.OK {
		t.Fatalf("P20.5: %s: error %d", x.what, e)
	}
	steps = w.b.Steps() - steps
	after := hadOf(w.s)
	if before.is(after) != (x.what == "nothing") {
		t.Fatalf("P20.5: %s: it is as it was", x.what)
	}
	return before, after, steps
}

// cut makes the commit, with a power that fails behind some steps; it tells whether it is committed, as the anchor says.
func (x scene) cut(t *testing.T, steps, enough int) (*world, bool) {
	t.Helper()
	w := x.from.open(t)
	p := x.plan(w)
	r := w.s.Super()
	w.b.Cut(steps)
	e := w.s.Commit(p)
	if (e == api.OK) != (steps >= enough) || e != api.OK && e != api.ErrPower || w.s.Dead() != (e == api.ErrPower) {
		t.Fatalf("P20.5: %s, %d of %d steps: error %d, Dead %v", x.what, steps, enough, e, w.s.Dead())
	}
	count, _ := w.a.Get()
	done := count == r.Count+1
	if count != r.Count && !done || e == api.OK && !done {
		t.Fatalf("P20.5: %s, %d steps: the anchor's count is %d, behind %d", x.what, steps, count, r.Count)
	}
	if done != (w.s.Super().Count == r.Count+1) {
		t.Fatalf("P20.5: %s, %d steps: the store's Count is %d, the anchor's %d", x.what, steps, w.s.Super().Count, count)
	}
	return w, done
}

// holdHad holds that a volume has all that was there ahead, or all that was committed.
func (w *world) holdHad(what string, before, after had, done bool) {
	w.t.Helper()
	want := before
	if done {
		want = after
	}
	if got := hadOf(w.s); !got.is(want) {
		w.t.Fatalf("P20.6: %s, committed %v: %s, want %s", what, done, got.brief(), want.brief())
	}
}

// P20.6: the power fails at each step of a commit, and each set of the writes that wait is kept: Open finds all of what was there ahead, or all of what was committed, as the anchor says; the latter if Commit was OK.
func TestPowerFails(t *testing.T) {
	for _, x := range scenes(t) {
		before, after, enough := x.ends(t)
		ends := map[bool]int{}
		for steps := range enough + 2 {
			for set, sets := 0, 1; set < sets; set++ {
				w, done := x.cut(t, steps, enough)
				sets = 1 << w.waiting()
				w.crash(set)
				w.open("P20.6: "+x.what, api.OK)
				w.holdHad(x.what+", "+strconv.Itoa(steps)+" steps", before, after, done)
				ends[done]++
			}
		}
		if ends[false] == 0 || ends[true] < 2 {
			t.Errorf("%s: chance met %v", x.what, ends)
		}
	}
}

// P20.6: the power fails at a step of a commit, and at each step of the Open behind it; the next Open finds the same.
func TestPowerFailsTwice(t *testing.T) {
	for _, x := range scenes(t)[1:4] {
		before, after, enough := x.ends(t)
		for steps := 0; steps <= enough; steps += 3 {
			for again := 0; ; again++ {
				w, done := x.cut(t, steps, enough)
				w.crash(steps * 5)
				w.b.Cut(again)
				s, e := commit.Open(w.b, w.a, key)
				if e == api.OK {
					w.s = s
					w.crash(0) // nothing waits, but there may be no power left to read with
					w.holdHad(x.what, before, after, done)
					break
				}
				if e != api.ErrPower || s != nil {
					t.Fatalf("P20.2: %s: error %d", x.what, e)
				}
				w.crash(again*3 + steps)
				w.open("P20.6: "+x.what, api.OK)
				w.holdHad(x.what+", twice", before, after, done)
			}
		}
	}
}

// P20.6: a commit that is ErrLost by three disks' logs, one of which is written by then, and the power fails at each of its steps: Open finds what was there ahead.
func TestPowerFailsBehindLost(t *testing.T) {
	from := pictureOf(filled(t, 4, 2, 2))
	for steps := range 12 {
		for set := range 1 << 3 {
			w := from.open(t)
			if e := w.s.Commit(commit.Plan{Super: w.s.Super(), Changes: w.changes(0, 80)}); e != api.OK {
				t.Fatalf("P20.5: error %d", e)
			}
			want := hadOf(w.s).record
			p := commit.Plan{Super: w.s.Super(), Blank: []int{0, 1, 2}, Changes: w.changes(1, 81)}
			for i := range 3 {
				w.b.Disk(i).Fail()
			}
			w.b.Cut(steps)
			if e := w.s.Commit(p); e != api.ErrPower && (e != api.ErrLost || steps < 7) {
				t.Fatalf("P20.5: %d steps: error %d", steps, e)
			}
			w.crash(set)
			w.open("P20.6: behind ErrLost", api.OK)
			s := slabOf(w.b, 3, 2, key)
			if r := hadOf(w.s).record; !alike(r, want) || len(s.Bad(r.Members[3].Top)) != 0 {
				t.Fatalf("P20.6: %d steps: %v, want %v", steps, r, want)
			}
		}
	}
}

// P20.6: no nonce is told twice, over commits that are OK, that are refused, that lose power, and over Opens, of which some lose power too.
func TestNoncesOnce(t *testing.T) {
	w := pictureOf(filled(t, 4, 2, 2)).open(t)
	told := map[string]int{}
	hold := func(turn int, l []commit.Change) {
		t.Helper()
		for _, c := range l {
			if was, ok := told[c.Cell[:12]]; ok {
				t.Fatalf("P20.6: the nonce %x of turn %d is told at turn %d again", c.Cell[:12], was, turn)
			}
			told[c.Cell[:12]] = turn
		}
	}
	for turn := range 300 {
		p := commit.Plan{Super: w.s.Super(), Changes: w.changes(turn%2, turn)}
		hold(turn, p.Changes)
		switch turn % 5 {
		case 0:
			w.s.Commit(p)
		case 1:
			p.Super.Mark = 1
			w.s.Commit(p)
		case 2:
			w.s.Seal(-1, -1, "")
		default:
			w.b.Cut(turn % 47)
			w.s.Commit(p)
			if !w.s.Dead() {
				hold(turn, w.changes(1, turn))
			}
			w.crash(turn)
			w.b.Cut(turn % 7 * 5)
			commit.Open(w.b, w.a, key) // there may be too little power for it, or enough, and then the store isn't used
			w.crash(turn)
			w.open("P20.6: a turn", api.OK)
		}
	}
	if len(told) < 1200 {
		t.Errorf("%d nonces were told", len(told))
	}
}

// P20.5, P20.6: the power fails at each step: what was written by then is what the document says, in its order, as it is shown by what is kept.
func TestPowerSteps(t *testing.T) {
	for steps := range 60 {
		for _, set := range []int{0, 1, 2, 5, 7} {
			w := filled(t, 5, 2, 2)
			p := w.plan(w.changes(1, 80)...)
			p.Blank = []int{3}
			w.both(func(b *bank.Bank) { b.Cut(steps) })
			w.commit("P20.5: the power fails", p, whatever)
			kept := []bool{set&1 == 1, set&2 == 2, set&4 == 4, false, true}
			w.both(func(b *bank.Bank) { b.Crash(kept, kept, kept, kept, kept) })
			w.agree("P20.6: what was kept", api.OK, api.OK, api.OK)
			w.open("P20.6: behind it", api.OK)
		}
	}
}
