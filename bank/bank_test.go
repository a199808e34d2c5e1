package bank

import (
	"go/ast"
	"go/parser"
	"go/token"
	"math"
	"reflect"
	"slices"
	"strconv"
	"strings"
	"testing"

	"cofferdam/api"
	"cofferdam/disk"
)

// The document's limits.
const (
	mostBytes = 2048
	mostCells = 512
	mostDisks = 12
)

// far are numbers of which there is no disk and no cell, whatever the bank.
var far = []int{math.MinInt, math.MinInt + 1, -mostDisks, -2, -1, mostCells, mostCells + 1, 1 << 32, math.MaxInt - 1, math.MaxInt}

// model is the document's sentences on a bank, over disks of its own. It knows behind which step the power fails, not how many are left.
type model struct {
	disks []*disk.Disk
	made  uint64
	cut   bool
	until uint64
}

func newModel(disks, cells int) *model {
	m := &model{}
	for range disks {
		m.disks = append(m.disks, disk.New(cells))
	}
	return m
}

func (m *model) has(i int) bool {
	return i >= 0 && i < len(m.disks)
}

func (m *model) out() bool {
	return m.cut && m.made >= m.until
}

func (m *model) spend() api.Errno {
	if m.out() {
		return api.ErrPower
	}
	m.made++
	return api.OK
}

func (m *model) write(i, at int, s string) api.Errno {
	if !m.has(i) {
		return api.ErrNone
	}
	if e := m.spend(); e != api.OK {
		return e
	}
	return m.disks[i].Write(at, s)
}

func (m *model) flush(i int) api.Errno {
	if !m.has(i) {
		return api.ErrNone
	}
	if e := m.spend(); e != api.OK {
		return e
	}
	return m.disks[i].Flush()
}

func (m *model) read(i, at int) (string, api.Errno) {
	switch {
	case !m.has(i):
		return "", api.ErrNone
	case m.out():
		return "", api.ErrPower
	}
	return m.disks[i].Read(at)
}

func (m *model) cutBehind(steps int) {
	m.cut, m.until = true, m.made
	if steps > 0 {
		m.until += uint64(steps)
	}
}

func (m *model) crash(kept [][]bool) {
	m.cut = false
	for i, d := range m.disks {
		if i < len(kept) {
			d.Crash(kept[i]...)
		} else {
			d.Crash()
		}
	}
}

// holdDisk holds that all that is told of a disk itself, power or none, is as of another one.
func holdDisk(t *testing.T, what string, d, want *disk.Disk) {
	t.Helper()
	if d == nil || d.Size() != want.Size() || d.Waiting() != want.Waiting() || d.Dead() != want.Dead() {
		t.Fatalf("%s: %d cells, %d wait, dead %v; want %d, %d, %v", what, d.Size(), d.Waiting(), d.Dead(), want.Size(), want.Waiting(), want.Dead())
	}
	if got, image := d.Image(), want.Image(); !slices.Equal(got, image) {
		t.Fatalf("%s: the cells have %.80q, want %.80q", what, got, image)
	}
}

// hold holds that all that is asked of a bank without changing it is as the model says.
func hold(t *testing.T, what string, b *Bank, m *model) {
	t.Helper()
	if b.Size() != len(m.disks) || b.Steps() != int(m.made) {
		t.Fatalf("P10: %s: %d disks, %d steps; want %d, %d", what, b.Size(), b.Steps(), len(m.disks), m.made)
	}
	if b.Disk(-1) != nil || b.Disk(len(m.disks)) != nil {
		t.Fatalf("P10.1: %s: a disk where there is none", what)
	}
	for i, d := range m.disks {
		holdDisk(t, "P10: "+what+": disk "+strconv.Itoa(i), b.Disk(i), d)
	}
	for i := -1; i <= len(m.disks); i++ {
		for at := -1; at <= m.disks[0].Size(); at++ {
			s, e := b.Read(i, at)
			if want, wantErr := m.read(i, at); s != want || e != wantErr {
				t.Fatalf("P10.2: %s: Read(%d, %d): %.20q, error %d; want %.20q, error %d", what, i, at, s, e, want, wantErr)
			}
		}
	}
}

// holdErr holds what error a call has answered.
func holdErr(t *testing.T, what string, got, want api.Errno) {
	t.Helper()
	if got != want {
		t.Errorf("%s: error %d, want %d", what, got, want)
	}
}

// holdRead holds what one cell has.
func holdRead(t *testing.T, what string, b *Bank, i, at int, want string) {
	t.Helper()
	if s, e := b.Read(i, at); s != want || e != api.OK {
		t.Errorf("%s: Read(%d, %d): %.20q of %d bytes, error %d; want %.20q of %d bytes", what, i, at, s, len(s), e, want, len(want))
	}
}

// holdLeft holds that so many steps are left and no more, and uses them up.
func holdLeft(t *testing.T, what string, b *Bank, left int) {
	t.Helper()
	for k := range left {
		if e := b.Spend(); e != api.OK {
			t.Fatalf("%s: %d steps were left, want %d; error %d", what, k, left, e)
		}
	}
	if e := b.Spend(); e != api.ErrPower {
		t.Errorf("%s: more than %d steps were left; error %d", what, left, e)
	}
}

// holdPower holds that the power doesn't fail, as far as a test can wait for it.
func holdPower(t *testing.T, what string, b *Bank) {
	t.Helper()
	made := b.Steps()
	for k := range 1000 {
		if e := b.Spend(); e != api.OK {
			t.Fatalf("%s: the power fails behind %d steps; error %d", what, k, e)
		}
	}
	if b.Steps() != made+1000 {
		t.Errorf("%s: %d steps were made, want %d", what, b.Steps(), made+1000)
	}
}

// P10.1: how many disks there are, each layer 9's of so many cells, all of them empty; no step was made.
func TestNew(t *testing.T) {
	for _, c := range []struct{ disks, want int }{
		{math.MinInt, 1}, {-12, 1}, {-1, 1}, {0, 1}, {1, 1}, {2, 2}, {3, 3}, {11, 11},
		{12, 12}, {13, 12}, {512, 12}, {1 << 32, 12}, {math.MaxInt - 1, 12}, {math.MaxInt, 12},
	} {
		for _, cells := range []int{math.MinInt, -1, 0, 1, 2, 140, mostCells - 1, mostCells, mostCells + 1, math.MaxInt} {
			b := New(c.disks, cells)
			if b == nil || b.Size() != c.want {
				t.Fatalf("P10.1: New(%d, %d) has %d disks, want %d", c.disks, cells, b.Size(), c.want)
			}
			what := "New(" + strconv.Itoa(c.disks) + ", " + strconv.Itoa(cells) + ")"
			if b.Steps() != 0 {
				t.Errorf("P10.1: %s: %d steps were made", what, b.Steps())
			}
			for i := range c.want {
				holdDisk(t, "P10.1: "+what, b.Disk(i), disk.New(cells))
			}
			size := min(max(cells, 1), mostCells)
			holdErr(t, "P10.1: "+what+": the last cell of the last disk", b.Write(c.want-1, size-1, "last"), api.OK)
			holdErr(t, "P10.1: "+what+": a cell behind the last", b.Write(c.want-1, size, "behind"), api.ErrArg)
			holdErr(t, "P10.1: "+what+": a disk behind the last", b.Write(c.want, 0, "behind"), api.ErrNone)
			holdRead(t, "P10.1: "+what, b, c.want-1, size-1, "last")
		}
	}
}

// P10.1: of a new bank the power doesn't fail.
func TestNeverCut(t *testing.T) {
	holdPower(t, "P10.1: never cut", New(1, 1))
	b := New(3, 2)
	for k := range 3000 {
		holdErr(t, "P10.1: never cut, Write", b.Write(k%3, k%2, "a"), api.OK)
		holdErr(t, "P10.1: never cut, Flush", b.Flush(k%3), api.OK)
		holdRead(t, "P10.1: never cut", b, k%3, k%2, "a")
	}
	if b.Steps() != 6000 {
		t.Errorf("P10.1: %d steps were made, want 6000", b.Steps())
	}
}

// P10.1: Disk tells the bank's disk itself, the same at each call and another at each number; nil of numbers that there aren't.
func TestDisk(t *testing.T) {
	for _, disks := range []int{1, 2, 5, mostDisks} {
		b := New(disks, 2)
		for _, i := range append(far, disks, disks+1, mostDisks) {
			if b.Disk(i) != nil {
				t.Errorf("P10.1: of %d disks, Disk(%d) isn't nil", disks, i)
			}
		}
		for i := range disks {
			for j := range disks {
				if (b.Disk(i) == b.Disk(j)) != (i == j) || b.Disk(i) == nil {
					t.Errorf("P10.1: of %d disks, is Disk(%d) Disk(%d)?", disks, i, j)
				}
			}
			text := "disk " + strconv.Itoa(i)
			holdErr(t, "P10.1: by the bank", b.Write(i, 0, text), api.OK)
			if s, e := b.Disk(i).Read(0); s != text || e != api.OK || b.Disk(i).Waiting() != 1 {
				t.Errorf("P10.1: what was written by the bank: %q, error %d, %d wait", s, e, b.Disk(i).Waiting())
			}
			holdErr(t, "P10.1: by the disk", b.Disk(i).Write(1, text), api.OK)
			holdRead(t, "P10.1: what was written by the disk", b, i, 1, text)
		}
		if b.Steps() != disks {
			t.Errorf("P10.1: %d steps, though of %d disks each was written to once by the bank", b.Steps(), disks)
		}
	}
}

// P10.1: what is done to the disk itself needs no power, makes no step, and is seen by the bank.
func TestDiskItselfNeedsNoPower(t *testing.T) {
	b := New(2, 2)
	b.Cut(0)
	d := b.Disk(1)
	holdErr(t, "P10.1: of the disk, Write", d.Write(0, "a"), api.OK)
	holdErr(t, "P10.1: of the disk, Flush", d.Flush(), api.OK)
	if s, e := d.Read(0); s != "a" || e != api.OK || !d.Tamper(1, "t") || b.Disk(1) != d || b.Steps() != 0 {
		t.Errorf("P10.1: of the disk, Read: %q, error %d; %d steps", s, e, b.Steps())
	}
	b.Crash()
	holdRead(t, "P10.1: flushed by the disk", b, 1, 0, "a")
	holdRead(t, "P10.1: tampered with", b, 1, 1, "t")
	d.Fail()
	holdErr(t, "P10.1: of a disk that failed", b.Write(1, 0, "b"), api.ErrDisk)
}

// The document's example.
func TestExample(t *testing.T) {
	b := New(2, 4)
	b.Cut(1)
	holdErr(t, "P10.2: the example", b.Write(0, 0, "a"), api.OK)
	holdErr(t, "P10.2: the example", b.Write(1, 0, "b"), api.ErrPower)
	b.Crash()
	holdRead(t, "P10.3: the example", b, 0, 0, "")
}

// P10.2: of disks that there aren't, ErrNone ahead of ErrPower and of what a disk would answer; no step is made, and none used up.
func TestNoSuchDisk(t *testing.T) {
	texts := []string{"", "a", strings.Repeat("x", mostBytes+1)}
	for _, disks := range []int{1, 3, mostDisks} {
		for _, left := range []int{-1, 0, 2} { // -1: not cut
			b, m := New(disks, 2), newModel(disks, 2)
			if left >= 0 {
				b.Cut(left)
				m.cutBehind(left)
			}
			for _, i := range append(far, disks, disks+1, mostDisks) {
				for _, at := range []int{math.MinInt, -1, 0, 1, 2, math.MaxInt} {
					for _, s := range texts {
						holdErr(t, "P10.2: Write of no disk", b.Write(i, at, s), api.ErrNone)
					}
					if s, e := b.Read(i, at); s != "" || e != api.ErrNone {
						t.Errorf("P10.2: Read(%d, %d) of %d disks: %q, error %d", i, at, disks, s, e)
					}
				}
				holdErr(t, "P10.2: Flush of no disk", b.Flush(i), api.ErrNone)
			}
			hold(t, "behind calls of no disk", b, m)
			if left >= 0 {
				holdLeft(t, "P10.2: behind calls of no disk", b, left)
			} else {
				holdPower(t, "P10.2: behind calls of no disk", b)
			}
		}
	}
}

// refused is a call of a disk that itself answers an error.
type refused struct {
	name string
	call func(*Bank) api.Errno
	want api.Errno
}

func refusedCalls() []refused {
	long := strings.Repeat("x", mostBytes+1)
	return []refused{
		{"Write, no such cell", func(b *Bank) api.Errno { return b.Write(0, 2, "a") }, api.ErrArg},
		{"Write, a cell below 0", func(b *Bank) api.Errno { return b.Write(0, -1, "a") }, api.ErrArg},
		{"Write, the least cell", func(b *Bank) api.Errno { return b.Write(0, math.MinInt, "a") }, api.ErrArg},
		{"Write, the greatest cell", func(b *Bank) api.Errno { return b.Write(0, math.MaxInt, "a") }, api.ErrArg},
		{"Write, no such cell, too long", func(b *Bank) api.Errno { return b.Write(0, 2, long) }, api.ErrArg},
		{"Write, too long", func(b *Bank) api.Errno { return b.Write(0, 1, long) }, api.ErrLong},
		{"Write, dead", func(b *Bank) api.Errno { return b.Write(1, 0, "a") }, api.ErrDisk},
		{"Write, dead, no such cell, too long", func(b *Bank) api.Errno { return b.Write(1, 2, long) }, api.ErrDisk},
		{"Flush, dead", func(b *Bank) api.Errno { return b.Flush(1) }, api.ErrDisk},
	}
}

// P10.2: a step is made though the disk itself answers an error; without a step left it isn't asked.
func TestStepThoughTheDiskRefuses(t *testing.T) {
	for _, c := range refusedCalls() {
		for _, left := range []int{-1, 0, 1, 2, 5} { // -1: not cut
			b, m := New(2, 2), newModel(2, 2)
			b.Disk(1).Fail()
			m.disks[1].Fail()
			if left >= 0 {
				b.Cut(left)
				m.cutBehind(left)
			}
			for k := range 4 {
				want := api.ErrPower
				if left < 0 || k < left {
					want = c.want
					m.made++
				}
				holdErr(t, "P10.2: "+c.name, c.call(b), want)
				hold(t, c.name, b, m)
			}
			if left >= 0 {
				holdLeft(t, "P10.2: "+c.name, b, max(left-4, 0))
			}
		}
	}
}

// P10.2: Spend makes a step, as long as one is left.
func TestSpend(t *testing.T) {
	b := New(1, 1)
	holdErr(t, "P10.2: never cut", b.Spend(), api.OK)
	b.Cut(2)
	for k, want := range []api.Errno{api.OK, api.OK, api.ErrPower, api.ErrPower, api.ErrPower} {
		holdErr(t, "P10.2: Spend "+strconv.Itoa(k), b.Spend(), want)
		if made := min(k+2, 3); b.Steps() != made {
			t.Errorf("P10.2: %d steps, want %d", b.Steps(), made)
		}
	}
	if d := b.Disk(0); d.Waiting() != 0 || !slices.Equal(d.Image(), []string{""}) {
		t.Error("P10.2: Spend has changed a disk")
	}
}

// P10.2: Read makes no step and needs one to be left; its errors, ErrPower ahead of those of the disk.
func TestRead(t *testing.T) {
	b := New(3, 2)
	holdErr(t, "P10.2: Write", b.Write(0, 0, "a"), api.OK)
	holdErr(t, "P10.2: Flush", b.Flush(0), api.OK)
	holdErr(t, "P10.2: Write", b.Write(0, 1, "waits"), api.OK)
	b.Disk(1).Fail()
	b.Cut(1)
	for range 100 {
		holdRead(t, "P10.2: the last step is left", b, 0, 0, "a")
		holdRead(t, "P10.2: the last step is left", b, 0, 1, "waits")
		holdRead(t, "P10.2: the last step is left", b, 2, 0, "")
	}
	for _, c := range []struct {
		i, at int
		want  api.Errno
	}{{0, -1, api.ErrArg}, {0, 2, api.ErrArg}, {2, math.MaxInt, api.ErrArg}, {1, 0, api.ErrDisk}, {1, 2, api.ErrDisk}, {0, 0, api.OK}, {2, 1, api.OK}} {
		if s, e := b.Read(c.i, c.at); e != c.want || e != api.OK && s != "" {
			t.Errorf("P10.2: Read(%d, %d): %q, error %d", c.i, c.at, s, e)
		}
	}
	if b.Steps() != 3 {
		t.Errorf("P10.2: %d steps, want 3: Read makes none", b.Steps())
	}
	holdLeft(t, "P10.2: behind Reads", b, 1)
	for range 3 {
		for i := range 3 {
			for _, at := range []int{math.MinInt, -1, 0, 1, 2, math.MaxInt} {
				if s, e := b.Read(i, at); s != "" || e != api.ErrPower {
					t.Errorf("P10.2: no step is left, Read(%d, %d): %q, error %d", i, at, s, e)
				}
			}
		}
	}
}

// P10.2, rule 3: without power a Write and a Flush change nothing, and what waits still does.
func TestNoPowerChangesNothing(t *testing.T) {
	b, m := New(2, 2), newModel(2, 2)
	for _, e := range []api.Errno{b.Write(0, 0, "a"), b.Flush(0), b.Write(0, 0, "b"), m.write(0, 0, "a"), m.flush(0), m.write(0, 0, "b")} {
		holdErr(t, "P10.2: with power", e, api.OK)
	}
	b.Cut(0)
	m.cutBehind(0)
	for range 3 {
		holdErr(t, "P10.2: Write", b.Write(0, 0, "c"), api.ErrPower)
		holdErr(t, "P10.2: Write", b.Write(1, 1, "c"), api.ErrPower)
		holdErr(t, "P10.2: Flush", b.Flush(0), api.ErrPower)
		hold(t, "without power", b, m)
	}
	b.Crash([]bool{true, true})
	m.crash([][]bool{{true, true}})
	hold(t, "behind a Crash", b, m)
	holdRead(t, "P10.3: the write that was made", b, 0, 0, "b")
}

// P10.1 and P10.2: Steps counts each Write, Flush and Spend that has power, and nothing else, also beyond a Cut and a Crash.
func TestSteps(t *testing.T) {
	b := New(2, 2)
	for k, c := range []struct {
		do   func()
		want int
	}{
		{func() {}, 0},
		{func() { b.Write(0, 0, "a") }, 1},
		{func() { b.Write(1, 9, "refused by the disk") }, 2},
		{func() { b.Write(2, 0, "no disk") }, 2},
		{func() { b.Flush(1) }, 3},
		{func() { b.Flush(-1) }, 3},
		{func() { b.Spend() }, 4},
		{func() { b.Read(0, 0) }, 4},
		{func() { b.Cut(1) }, 4},
		{func() { b.Flush(0) }, 5},
		{func() { b.Flush(0) }, 5},
		{func() { b.Write(0, 0, "no power") }, 5},
		{func() { b.Spend() }, 5},
		{func() { b.Crash() }, 5},
		{func() { b.Spend() }, 6},
		{func() { b.Cut(-1) }, 6},
		{func() { b.Spend() }, 6},
		{func() { b.Cut(1) }, 6},
		{func() { b.Write(1, 0, "a") }, 7},
		{func() { b.Crash([]bool{true}, []bool{true}) }, 7},
		{func() { b.Disk(0).Write(0, "by the disk") }, 7},
		{func() { b.Size() }, 7},
	} {
		if c.do(); b.Steps() != c.want {
			t.Fatalf("P10.2: behind call %d: %d steps, want %d", k, b.Steps(), c.want)
		}
	}
}

// P10.3: so many steps are left behind a Cut, whichever calls make them.
func TestCut(t *testing.T) {
	for _, c := range []struct{ steps, left int }{
		{math.MinInt, 0}, {math.MinInt + 1, 0}, {-5, 0}, {-1, 0}, {0, 0}, {1, 1}, {2, 2}, {3, 3}, {10, 10}, {1000, 1000},
	} {
		for ahead := range 3 {
			b := New(2, 2)
			for range ahead { // steps that were made ahead don't count
				b.Spend()
			}
			b.Cut(c.steps)
			for k := range c.left {
				var e api.Errno
				switch k % 3 {
				case 0:
					e = b.Write(k%2, 0, "a")
				case 1:
					e = b.Flush(k % 2)
				case 2:
					e = b.Spend()
				}
				holdErr(t, "P10.3: Cut("+strconv.Itoa(c.steps)+"), step "+strconv.Itoa(k), e, api.OK)
			}
			for range 2 {
				holdErr(t, "P10.3: no step is left, Write", b.Write(0, 0, "b"), api.ErrPower)
				holdErr(t, "P10.3: no step is left, Flush", b.Flush(1), api.ErrPower)
				holdErr(t, "P10.3: no step is left, Spend", b.Spend(), api.ErrPower)
			}
			if b.Steps() != ahead+c.left {
				t.Errorf("P10.3: Cut(%d): %d steps, want %d", c.steps, b.Steps(), ahead+c.left)
			}
		}
	}
	for _, steps := range []int{1 << 32, math.MaxInt - 1, math.MaxInt} {
		b := New(1, 1)
		b.Cut(steps)
		holdPower(t, "P10.3: Cut("+strconv.Itoa(steps)+")", b)
		b.Cut(steps)
		holdPower(t, "P10.3: a second Cut("+strconv.Itoa(steps)+")", b)
	}
}

// P10.3: a second Cut counts alone, whether it has more or fewer steps, and with the power on or out.
func TestCutAgain(t *testing.T) {
	for _, first := range []int{-3, 0, 1, 4, 9} {
		for used := range 11 {
			for _, second := range []int{-3, 0, 1, 4, 9} {
				b := New(1, 1)
				b.Cut(first)
				for range used {
					b.Spend()
				}
				b.Cut(second)
				if s, e := b.Read(0, 0); s != "" || (e == api.OK) != (second > 0) {
					t.Errorf("P10.3: Cut(%d), %d used, Cut(%d): Read: %q, error %d", first, used, second, s, e)
				}
				holdLeft(t, "P10.3: a second Cut", b, max(second, 0))
				if want := min(used, max(first, 0)) + max(second, 0); b.Steps() != want {
					t.Errorf("P10.3: Cut(%d), %d used, Cut(%d): %d steps, want %d", first, used, second, b.Steps(), want)
				}
			}
		}
	}
}

// P10.3: with no, fewer, as many and more lists than disks; with empty ones; with fewer and more places than writes.
func TestCrash(t *testing.T) {
	for _, c := range []struct {
		name string
		kept [][]bool
		want [3]string // each disk had "old", then writes "a" and "b" of one cell waited
	}{
		{"nil", nil, [3]string{"old", "old", "old"}},
		{"no lists", [][]bool{}, [3]string{"old", "old", "old"}},
		{"one list", [][]bool{{true}}, [3]string{"a", "old", "old"}},
		{"two lists", [][]bool{{false, true}, {true, false}}, [3]string{"b", "a", "old"}},
		{"three lists", [][]bool{{true}, {false, false}, {false, true}}, [3]string{"a", "old", "b"}},
		{"four lists", [][]bool{{true}, {true, true}, {true}, {true, true}}, [3]string{"a", "b", "a"}},
		{"twenty lists", slices.Repeat([][]bool{{false, true}}, 20), [3]string{"b", "b", "b"}},
		{"a nil list ahead", [][]bool{nil, {true}}, [3]string{"old", "a", "old"}},
		{"empty lists ahead", [][]bool{{}, {}, {true, true, true, true}}, [3]string{"old", "old", "b"}},
		{"an empty list between", [][]bool{{true}, {}, {true}}, [3]string{"a", "old", "a"}},
		{"empty lists alone", [][]bool{{}, nil, {}}, [3]string{"old", "old", "old"}},
		{"more places than writes", [][]bool{{false, false, true, true}, {true, false, true}}, [3]string{"old", "a", "old"}},
	} {
		b := New(3, 1)
		for i := range 3 {
			for _, e := range []api.Errno{b.Write(i, 0, "old"), b.Flush(i), b.Write(i, 0, "a"), b.Write(i, 0, "b")} {
				holdErr(t, "P10.2: with power", e, api.OK)
			}
		}
		asked := make([][]bool, len(c.kept))
		for i, l := range c.kept {
			asked[i] = slices.Clone(l)
		}
		b.Crash(c.kept...)
		if !slices.EqualFunc(c.kept, asked, slices.Equal[[]bool]) {
			t.Errorf("rule 4: %s: Crash has changed what was handed in", c.name)
		}
		for i, s := range c.want {
			holdRead(t, "P10.3: "+c.name, b, i, 0, s)
			if n := b.Disk(i).Waiting(); n != 0 {
				t.Errorf("P10.3: %s: %d writes of disk %d wait", c.name, n, i)
			}
		}
		if b.Size() != 3 || b.Steps() != 12 {
			t.Errorf("P10.3: %s: %d disks, %d steps", c.name, b.Size(), b.Steps())
		}
	}
}

// Rule 4: what lies behind the lengths of the lists isn't read.
func TestBehindALength(t *testing.T) {
	b := New(2, 2)
	for i := range 2 {
		for at := range 2 {
			holdErr(t, "P10.2: with power", b.Write(i, at, "a"), api.OK)
		}
	}
	places, lists := []bool{true, true}, [][]bool{nil, {true, true}}
	lists[0] = places[:1]
	b.Crash(lists[:1]...)
	holdRead(t, "P10.3: within both lengths", b, 0, 0, "a")
	holdRead(t, "P10.3: behind a list's length", b, 0, 1, "")
	holdRead(t, "P10.3: behind the length of the lists", b, 1, 0, "")
	holdRead(t, "P10.3: behind the length of the lists", b, 1, 1, "")
}

// Rule 4: the lists aren't kept: a later Crash asks its own alone.
func TestListsAreNotKept(t *testing.T) {
	b := New(1, 1)
	kept := [][]bool{{true}}
	holdErr(t, "P10.2: with power", b.Write(0, 0, "a"), api.OK)
	b.Crash(kept...)
	kept[0][0] = false
	kept[0] = nil
	holdRead(t, "P10.3: kept", b, 0, 0, "a")
	holdErr(t, "P10.2: with power", b.Write(0, 0, "b"), api.OK)
	b.Crash()
	holdRead(t, "P10.3: lost", b, 0, 0, "a")
}

// P10.3: behind a Crash the power doesn't fail, whatever was cut ahead of it; a Cut behind it counts as any other.
func TestPowerBehindCrash(t *testing.T) {
	for _, ahead := range []int{-1, 0, 1, 7, math.MaxInt} {
		for used := range 3 {
			for _, cut := range []bool{false, true} {
				for _, kept := range [][][]bool{nil, {{true}}, {{}, {true}, {}}} {
					b := New(2, 1)
					if cut {
						b.Cut(ahead)
					}
					for range used {
						b.Spend()
					}
					b.Crash(kept...)
					holdRead(t, "P10.3: behind a Crash", b, 1, 0, "")
					holdPower(t, "P10.3: behind a Crash", b)
					b.Crash()
					holdPower(t, "P10.3: behind a second Crash", b)
					b.Cut(2)
					holdLeft(t, "P10.3: a Cut behind a Crash", b, 2)
					b.Crash()
					b.Cut(0)
					holdLeft(t, "P10.3: a Cut behind a Crash", b, 0)
				}
			}
		}
	}
}

// P10.3: a Crash of a bank with a dead disk: that one stays as it is, the others lose what isn't kept.
func TestCrashWithADeadDisk(t *testing.T) {
	b := New(3, 1)
	for i := range 3 {
		holdErr(t, "P10.2: with power", b.Write(i, 0, "a"), api.OK)
	}
	b.Disk(1).Fail()
	b.Cut(0)
	b.Crash([]bool{true}, []bool{true})
	holdRead(t, "P10.3: kept", b, 0, 0, "a")
	holdRead(t, "P10.3: lost", b, 2, 0, "")
	if s, e := b.Read(1, 0); s != "" || e != api.ErrDisk || !b.Disk(1).Dead() {
		t.Errorf("P10.3: Read of a dead disk: %q, error %d", s, e)
	}
}

// P10.2 and P10.3: the power fails at each step of a row of writes and flushes of two disks, each set of the first two writes that wait of each kept.
func TestEachCut(t *testing.T) {
	row := []struct {
		i, at int // at -1: a Flush
		s     string
	}{{0, 0, "a"}, {1, 0, "b"}, {1, 0, "c"}, {0, -1, ""}, {0, 1, "d"}, {0, 0, "e"}, {1, -1, ""}, {1, 1, "f"}, {0, 0, "g"}, {1, 0, "h"}}
	for steps := range len(row) + 2 {
		for set := range 1 << 4 {
			b, m := New(2, 2), newModel(2, 2)
			b.Cut(steps)
			m.cutBehind(steps)
			for k, c := range row {
				var got, want api.Errno
				if c.at < 0 {
					got, want = b.Flush(c.i), m.flush(c.i)
				} else {
					got, want = b.Write(c.i, c.at, c.s), m.write(c.i, c.at, c.s)
				}
				if got != want || (got == api.OK) != (k < steps) {
					t.Fatalf("P10.2: Cut(%d), step %d: error %d, want %d", steps, k, got, want)
				}
			}
			hold(t, "ahead of a Crash", b, m)
			kept := [][]bool{{set&1 != 0, set&2 != 0}, {set&4 != 0, set&8 != 0}}
			b.Crash(kept...)
			m.crash(kept)
			hold(t, "behind a Crash", b, m)
		}
	}
}

// The promises of nil banks: ErrNil, 0, nil; ErrNil ahead of the other errors; nothing is done.
func TestNil(t *testing.T) {
	var b *Bank
	for range 2 {
		for _, i := range append(far, 0, 1, mostDisks) {
			if b.Disk(i) != nil {
				t.Errorf("P10: nil, Disk(%d) isn't nil", i)
			}
			for _, at := range []int{math.MinInt, -1, 0, 1, math.MaxInt} {
				for _, s := range []string{"", "a", strings.Repeat("x", mostBytes+1)} {
					holdErr(t, "P10: nil, Write", b.Write(i, at, s), api.ErrNil)
				}
				if s, e := b.Read(i, at); s != "" || e != api.ErrNil {
					t.Errorf("P10: nil, Read(%d, %d): %q, error %d", i, at, s, e)
				}
			}
			holdErr(t, "P10: nil, Flush", b.Flush(i), api.ErrNil)
			holdErr(t, "P10: nil, Spend", b.Spend(), api.ErrNil)
			b.Cut(i)
		}
		b.Crash()
		b.Crash(nil, []bool{true, false})
		if b.Size() != 0 || b.Steps() != 0 {
			t.Errorf("P10: nil: %d disks, %d steps", b.Size(), b.Steps())
		}
	}
}

// What is done to one disk changes no other one: each call, of the bank and of the disk itself.
func TestOneDiskAlone(t *testing.T) {
	for i := range 3 {
		b, m := New(3, 2), newModel(3, 2)
		for j := range 3 {
			for _, e := range []api.Errno{b.Write(j, 0, "old"), b.Flush(j), b.Write(j, 1, "waits"), m.write(j, 0, "old"), m.flush(j), m.write(j, 1, "waits")} {
				holdErr(t, "P10.2: with power", e, api.OK)
			}
		}
		for k, do := range []func(){
			func() { b.Write(i, 0, "a") },
			func() { b.Write(i, 1, "b") },
			func() { b.Write(i, 2, "no such cell") },
			func() { b.Flush(i) },
			func() { b.Read(i, 0) },
			func() { b.Write(i, 0, "c") },
			func() { b.Disk(i).Crash(true) },
			func() { b.Disk(i).Write(0, "d") },
			func() { b.Disk(i).Tamper(1, "e") },
			func() { b.Disk(i).Flush() },
			func() { b.Disk(i).Restore([]string{"f", "g"}) },
			func() { b.Disk(i).Fail() },
		} {
			do()
			for j := range 3 {
				if j != i {
					holdDisk(t, "behind call "+strconv.Itoa(k)+" of another disk", b.Disk(j), m.disks[j])
				}
			}
		}
	}
}

// P2: what is done with one bank, none of it is seen of another: its steps, its power, its disks.
func TestApart(t *testing.T) {
	a, b, m := New(2, 2), New(2, 2), newModel(2, 2)
	for i := range 2 {
		for j := range 2 {
			if a.Disk(i) == b.Disk(j) {
				t.Fatal("P2: two banks have a disk in common")
			}
		}
	}
	for _, e := range []api.Errno{b.Write(0, 0, "b"), b.Flush(0), b.Write(1, 1, "waits"), m.write(0, 0, "b"), m.flush(0), m.write(1, 1, "waits")} {
		holdErr(t, "P10.2: with power", e, api.OK)
	}
	b.Cut(2)
	m.cutBehind(2)
	for k, do := range []func(){
		func() { a.Write(0, 0, "a") },
		func() { a.Flush(0) },
		func() { a.Write(1, 1, "a") },
		func() { a.Spend() },
		func() { a.Cut(0) },
		func() { a.Spend() },
		func() { a.Crash([]bool{true}, []bool{true}) },
		func() { a.Cut(100) },
		func() { a.Crash() },
		func() { a.Disk(0).Tamper(0, "t") },
		func() { a.Disk(1).Restore([]string{"r", "r"}) },
		func() { a.Disk(1).Fail() },
		func() { New(2, 2).Cut(0) },
	} {
		do()
		hold(t, "behind call "+strconv.Itoa(k)+" of another bank", b, m)
	}
	holdPower(t, "P2: a bank that was crashed beside one that was cut", a)
	holdLeft(t, "P2: a bank that was cut beside one that was crashed", b, 2)
}

// chance tells numbers that look like chance, the same in each run.
type chance uint32

func (c *chance) below(n int) int {
	*c = *c*1664525 + 1013904223
	return int(uint64(*c) * uint64(n) >> 32)
}

// lists are places kept, of about as many disks as there are.
func (c *chance) lists(disks int) [][]bool {
	kept := make([][]bool, c.below(disks+3))
	for i := range kept {
		kept[i] = make([]bool, c.below(6))
		for k := range kept[i] {
			kept[i][k] = c.below(2) == 0
		}
	}
	return kept
}

// step makes one call, of the bank and of the model, and holds what both answer.
func step(t *testing.T, c *chance, b *Bank, m *model) {
	t.Helper()
	i := c.below(len(m.disks)+2) - 1
	at := c.below(m.disks[0].Size()+2) - 1
	s := strings.Repeat(string(rune('a'+c.below(26))), []int{0, 1, 5, mostBytes, mostBytes + 1}[c.below(5)])
	switch k := c.below(1000); {
	case k < 500:
		holdErr(t, "P10.2: Write", b.Write(i, at, s), m.write(i, at, s))
	case k < 650:
		holdErr(t, "P10.2: Flush", b.Flush(i), m.flush(i))
	case k < 700:
		holdErr(t, "P10.2: Spend", b.Spend(), m.spend())
	case k < 800:
		steps := c.below(20) - 2
		b.Cut(steps)
		m.cutBehind(steps)
	case k < 950:
		kept := c.lists(len(m.disks))
		b.Crash(kept...)
		m.crash(kept)
	case k < 997:
		if m.has(i) {
			b.Disk(i).Tamper(at, s)
			m.disks[i].Tamper(at, s)
		}
	default:
		if m.has(i) {
			b.Disk(i).Fail()
			m.disks[i].Fail()
		}
	}
}

// P10.1 to P10.3: long rows of calls, all that can be asked held behind each; and P2: banks that are worked with by turns have nothing to do with one another.
func TestRowsOfCalls(t *testing.T) {
	for seed := range 60 {
		c := chance(seed*7919 + 1)
		var banks [3]*Bank
		var models [3]*model
		for k := range banks {
			disks, cells := c.below(4)+1, c.below(4)+1
			banks[k], models[k] = New(disks, cells), newModel(disks, cells)
		}
		for range 400 {
			k := c.below(len(banks))
			step(t, &c, banks[k], models[k])
			for k := range banks {
				hold(t, "seed "+strconv.Itoa(seed), banks[k], models[k])
			}
		}
	}
}

// Ways, layer 10: what is kept comes in through a variadic function.
func TestCrashIsVariadic(t *testing.T) {
	if f := reflect.TypeOf((*Bank).Crash); !f.IsVariadic() || f.NumIn() != 2 {
		t.Error("Ways: what is kept doesn't come in through a variadic function")
	}
}

// Ways, layer 10: and it goes on to each disk through layer 9's variadic one.
func TestWays(t *testing.T) {
	file, err := parser.ParseFile(token.NewFileSet(), "bank.go", nil, 0)
	if err != nil {
		t.Fatal(err)
	}
	found := false
	for _, d := range file.Decls {
		f, ok := d.(*ast.FuncDecl)
		if !ok || f.Name.Name != "Crash" {
			continue
		}
		ast.Inspect(f, func(n ast.Node) bool {
			if c, ok := n.(*ast.CallExpr); ok {
				s, ok := c.Fun.(*ast.SelectorExpr)
				found = found || ok && s.Sel.Name == "Crash" && c.Ellipsis.IsValid()
			}
			return true
		})
	}
	if !found {
		t.Error("Ways: the disks' places aren't handed on through their variadic Crash")
	}
}
