package stripe

import (
	"encoding/binary"
	"encoding/hex"
	"math"
	"reflect"
	"slices"
	"strconv"
	"strings"
	"testing"

	"cofferdam/aead"
	"cofferdam/api"
	"cofferdam/bank"
	"cofferdam/disk"
	"cofferdam/slab"
)

// The document's numbers: how many data chunks a stripe has, at least and at most, how many chunks more it has, how many bytes a block has, and where pairs and cells stand on a disk.
const (
	least      = 2
	most       = 8
	more       = 2
	blockBytes = 32
	firstPair  = 100
	firstCell  = 120
	diskCells  = 140
)

// sizes are the numbers of slots that good slabs have.
var sizes = []int{2, 4, 8, 16}

// ints are edges of ints, and such as become a stripe or a chunk where they are cut to fewer bits or lose their sign.
var ints = []int{math.MinInt, math.MinInt + 1, math.MinInt + 2, math.MinInt32, -1 << 32, -1<<32 + 1, -256 + 1, -16, -10, -4, -3, -2, -1, 1<<8 + 1, 1<<16 + 2, 1 << 31, 1 << 32, 1<<32 + 1, 1<<62 + 2, math.MaxInt - 1, math.MaxInt}

var (
	key     = strings.Repeat("k", 32)
	noughts = strings.Repeat("\x00", blockBytes)
)

// someText looks like chance, and is the same in each run.
func someText(length, seed int) string {
	b := make([]byte, length)
	x := uint32(seed)*2246822519 + 777
	for i := range b {
		x = x*1664525 + 1013904223
		b[i] = byte(x >> 24)
	}
	return string(b)
}

func someTexts(count, length, seed int) []string {
	l := make([]string, count)
	for i := range l {
		l[i] = someText(length, i+100*seed)
	}
	return l
}

// double multiplies by the generator in numbers, and so shares no step with the layers below.
func double(x byte) byte {
	wide := int(x) * 2
	if wide > 255 {
		wide ^= 0x11d
	}
	return byte(wide)
}

// stripeOf tells the chunks of a stripe by the document's words, with its data chunks gone through from the last one on.
func stripeOf(data []string) []string {
	p, q := make([]byte, len(data[0])), make([]byte, len(data[0]))
	for _, s := range slices.Backward(data) {
		for at := range p {
			p[at] ^= s[at]
			q[at] = double(q[at]) ^ s[at]
		}
	}
	return append(slices.Clone(data), string(p), string(q))
}

// turned tells the text with another byte at a place.
func turned(s string, at int) string {
	b := []byte(s)
	b[at] ^= 0x40
	return string(b)
}

// stack is shelves, with a stripe in each slot of their slabs.
type stack struct {
	t       *testing.T
	shelves []Shelf
	stripes [][]string // the chunks of each
	elder   [][]string // the image that each shelf's disk had ahead of these
	nonces  uint64
}

// nonce tells one that the stack hasn't used.
func (k *stack) nonce() string {
	k.nonces++
	return "once" + string(binary.BigEndian.AppendUint64(nil, k.nonces))
}

// blocks tells the data chunks of a stripe of the stack.
func blocks(data, stripe int) []string {
	return someTexts(data, blockBytes, 1+stripe+20*data)
}

// together tells a stack on the disks of one bank.
func together(t *testing.T, data, slots int) *stack {
	t.Helper()
	b := bank.New(data+more, diskCells)
	return laid(t, data, slots, func(i int) (*bank.Bank, int) { return b, i })
}

// apart tells one whose shelves have a bank each, so that each has a power of its own.
func apart(t *testing.T, data, slots int) *stack {
	t.Helper()
	return laid(t, data, slots, func(i int) (*bank.Bank, int) { return bank.New(1+i%3, diskCells), i % 3 })
}

// laid tells a stack on those disks. The slabs had other chunks yesterday.
func laid(t *testing.T, data, slots int, place func(i int) (*bank.Bank, int)) *stack {
	t.Helper()
	k := &stack{t: t}
	for i := range data + more {
		s := slab.Slab{Slots: slots, Key: key}
		s.Bank, s.Disk = place(i)
		l, top, e := s.Blank()
		if e != api.OK || s.Apply(l) != api.OK {
			t.Fatalf("layer 17: Blank: error %d", e)
		}
		k.shelves = append(k.shelves, Shelf{Slab: s, Top: top, Use: true})
	}
	for stripe := range slots {
		k.putAll(stripe, someTexts(data+more, blockBytes, 300+stripe))
	}
	for i := range k.shelves {
		k.elder = append(k.elder, k.disk(i).Image())
	}
	for stripe := range slots {
		k.stripes = append(k.stripes, stripeOf(blocks(data, stripe)))
		k.putAll(stripe, k.stripes[stripe])
	}
	return k
}

// disk tells that of a shelf.
func (k *stack) disk(i int) *disk.Disk {
	return k.shelves[i].Slab.Bank.Disk(k.shelves[i].Slab.Disk)
}

// putAll lays texts onto the shelves, as a stripe.
func (k *stack) putAll(stripe int, chunks []string) {
	k.t.Helper()
	for i, s := range chunks {
		k.put(i, stripe, s)
	}
}

// put lays a text onto a shelf as a stripe's chunk, whatever its length.
func (k *stack) put(i, stripe int, plain string) {
	k.t.Helper()
	k.cell(i, stripe, k.sealed(i, stripe, plain))
}

// sealed tells the cell of a text, by layer 8.
func (k *stack) sealed(i, stripe int, plain string) string {
	k.t.Helper()
	with := binary.BigEndian.AppendUint64(nil, uint64(k.shelves[i].Slab.Disk))
	with = binary.BigEndian.AppendUint64(with, uint64(stripe))
	nonce := k.nonce()
	c, e := aead.Seal(key, nonce, string(with), plain)
	if e != api.OK {
		k.t.Fatalf("layer 8: error %d", e)
	}
	return nonce + c
}

// cell lays a cell onto a shelf, and has its top tell so.
func (k *stack) cell(i, stripe int, cell string) {
	k.t.Helper()
	s := k.shelves[i].Slab
	l, top, e := s.Prepare(k.shelves[i].Top, []slab.Change{{Slot: stripe, Cell: cell}})
	if e != api.OK || s.Apply(l) != api.OK {
		k.t.Fatalf("layer 17: Prepare: error %d", e)
	}
	k.shelves[i].Top = top
}

// loss is something by which a shelf's chunk can't be had any more, and what layer 17 answers then.
type loss struct {
	what string
	do   func(k *stack, i, stripe int)
	e    api.Errno
}

// The losses that are asked for by name.

func unused() loss {
	return loss{"it isn't for use", func(k *stack, i, stripe int) { k.shelves[i].Use = false }, api.OK}
}

func dead() loss {
	return loss{"its disk is dead", func(k *stack, i, stripe int) { k.disk(i).Fail() }, api.ErrDisk}
}

func changed() loss {
	return tampered("its cell was changed", func(stripe int) int { return firstCell + stripe }, func(was string) string { return turned(was, 20) })
}

func otherTop() loss {
	return loss{"it has another's top", func(k *stack, i, stripe int) { k.shelves[i].Top = k.shelves[(i+1)%len(k.shelves)].Top }, api.ErrSum}
}

func otherKey() loss {
	return loss{"it has another key", func(k *stack, i, stripe int) { k.shelves[i].Slab.Key = someText(32, 1) }, api.ErrOpen}
}

func halfKey() loss {
	return loss{"it has half a key", func(k *stack, i, stripe int) { k.shelves[i].Slab.Key = key[:16] }, api.ErrForm}
}

func noBank() loss {
	return loss{"it has no bank", func(k *stack, i, stripe int) { k.shelves[i].Slab.Bank = nil }, api.ErrForm}
}

// tampered tells the loss by a cell of the disk that is put to other bytes.
func tampered(what string, at func(stripe int) int, to func(was string) string) loss {
	return loss{what, func(k *stack, i, stripe int) {
		was, _ := k.disk(i).Read(at(stripe))
		if now := to(was); now == was || !k.disk(i).Tamper(at(stripe), now) {
			k.t.Fatalf("the measure is wrong: %s", what)
		}
	}, api.ErrSum}
}

// losses tells one of each kind, the commonest four ahead.
func losses() []loss {
	none := func(was string) string { return "" }
	return []loss{
		unused(), dead(), changed(), otherTop(),
		otherKey(), halfKey(), noBank(),
		{"it has a top that is no disk's", func(k *stack, i, stripe int) { k.shelves[i].Top = someText(32, i) }, api.ErrSum},
		tampered("its cell is empty", func(stripe int) int { return firstCell + stripe }, none),
		tampered("its pair is gone", func(stripe int) int { return firstPair + 1 }, none),
		{"its disk was put back", func(k *stack, i, stripe int) { k.disk(i).Restore(k.elder[i]) }, api.ErrSum},
		{"it has no top", func(k *stack, i, stripe int) { k.shelves[i].Top = "" }, api.ErrSum},
		{"its cell is short", func(k *stack, i, stripe int) { k.cell(i, stripe, "short") }, api.ErrShort},
		{"its cell is another slot's", func(k *stack, i, stripe int) { k.cell(i, stripe, k.sealed(i, stripe+1, "moved")) }, api.ErrOpen},
		{"its bank has no such disk", func(k *stack, i, stripe int) { k.shelves[i].Slab.Disk = -1 }, api.ErrForm},
		{"its disk is small", func(k *stack, i, stripe int) { k.shelves[i].Slab.Bank = bank.New(12, 7) }, api.ErrArg},
		{"it is empty but for Use", func(k *stack, i, stripe int) { k.shelves[i] = Shelf{Use: true} }, api.ErrForm},
	}
}

// lose makes losses, and holds that each of them is what it is taken for.
func (k *stack) lose(stripe int, what loss, l ...int) {
	k.t.Helper()
	for _, i := range l {
		what.do(k, i, stripe)
		if s := k.shelves[i]; s.Use != (what.e != api.OK) {
			k.t.Fatalf("the measure is wrong: %s, and Use is %v", what.what, s.Use)
		} else if _, e := s.Slab.Get(s.Top, stripe); e != what.e {
			k.t.Fatalf("the measure is wrong: %s: error %d, want %d", what.what, e, what.e)
		}
	}
}

// shot is all that a bank shows of itself.
type shot struct {
	images  [][]string
	waiting []int
	dead    []bool
	steps   int
}

func shotOf(b *bank.Bank) shot {
	s := shot{steps: b.Steps()}
	for i := range b.Size() {
		d := b.Disk(i)
		s.images = append(s.images, d.Image())
		s.waiting = append(s.waiting, d.Waiting())
		s.dead = append(s.dead, d.Dead())
	}
	return s
}

func shots(l []Shelf) map[*bank.Bank]shot {
	m := map[*bank.Bank]shot{}
	for _, s := range l {
		if _, ok := m[s.Slab.Bank]; !ok {
			m[s.Slab.Bank] = shotOf(s.Slab.Bank)
		}
	}
	return m
}

// quiet makes calls, and holds that the shelves' banks are as they were then: nothing is written, no step is made.
func quiet(t *testing.T, what string, l []Shelf, calls func()) {
	t.Helper()
	was := shots(l)
	calls()
	if now := shots(l); !reflect.DeepEqual(now, was) {
		t.Fatalf("%s: a bank isn't as it was", what)
	}
}

// guarded tells the list with more behind its length, and what holds that all of it is as it was.
func guarded[T comparable](t *testing.T, what string, l []T, guards ...T) ([]T, func()) {
	t.Helper()
	whole := append(slices.Clone(l), guards...)
	was := slices.Clone(whole)
	return whole[:len(l)], func() {
		t.Helper()
		if !slices.Equal(whole, was) {
			t.Fatalf("rule 4: %s: what was handed in has changed", what)
		}
	}
}

// behind tells shelves that stand in a list's memory behind its length: a used one, and one that isn't.
func behind(l []Shelf) []Shelf {
	if len(l) == 0 {
		return []Shelf{{Top: "guard"}, {Top: "guard", Use: true}}
	}
	return []Shelf{l[0], {Top: "guard"}, l[len(l)-1], l[0]}
}

// spoil writes over all of a list's memory: what shares it shows so.
func spoil[T any](l []T) {
	clear(l[:cap(l)])
}

// brief tells chunks that aren't too many to be looked at.
func brief(l []string) string {
	s := strconv.Itoa(len(l)) + " chunks:"
	for _, c := range l[:min(len(l), most+more)] {
		s += " " + hex.EncodeToString([]byte(c[:min(len(c), 4)])) + " of " + strconv.Itoa(len(c))
	}
	return s
}

// The hold functions make a call twice, with what the first answered written over, as each answer is its own; and hold that what was handed in is as it was.

func holdMake(t *testing.T, what string, blocks, want []string, e api.Errno) {
	t.Helper()
	in, hold := guarded(t, what, blocks, "guard", "", someText(blockBytes, 1), "guard")
	for range 2 {
		l, f := Make(in)
		if !slices.Equal(l, want) || f != e {
			t.Fatalf("%s: Make of %d blocks: %s, error %d; want %s, error %d", what, len(blocks), brief(l), f, brief(want), e)
		}
		hold()
		spoil(l)
		hold()
	}
}

func holdLoad(t *testing.T, what string, l []Shelf, stripe int, chunks []string, lost []int, e api.Errno) {
	t.Helper()
	if e != api.OK && len(chunks)+len(lost) > 0 {
		t.Fatalf("the measure is wrong: %s: something beside error %d", what, e)
	}
	in, hold := guarded(t, what, l, behind(l)...)
	for range 2 {
		c, n, f := Load(in, stripe)
		if !slices.Equal(c, chunks) || !slices.Equal(n, lost) || f != e {
			t.Fatalf("%s: Load of %d shelves, stripe %d: %s, %v, error %d; want %s, %v, error %d", what, len(l), stripe, brief(c), n, f, brief(chunks), lost, e)
		}
		hold()
		spoil(c)
		spoil(n)
		hold()
	}
}

func holdOne(t *testing.T, what string, l []Shelf, stripe, chunk int, want string, e api.Errno) {
	t.Helper()
	in, hold := guarded(t, what, l, behind(l)...)
	for range 2 {
		if s, f := One(in, stripe, chunk); s != want || f != e {
			t.Fatalf("%s: One of %d shelves, stripe %d, chunk %d: %x, error %d; want %x, error %d", what, len(l), stripe, chunk, s, f, want, e)
		}
		hold()
	}
}

func holdWhole(t *testing.T, what string, l []Shelf, stripe int, want bool) {
	t.Helper()
	in, hold := guarded(t, what, l, behind(l)...)
	for range 2 {
		if w := Whole(in, stripe); w != want {
			t.Fatalf("%s: Whole of %d shelves, stripe %d: %v", what, len(l), stripe, w)
		}
		hold()
	}
}

// holdAll holds what is told of a stripe of which just those chunks can't be had, and the others are its own: all of it if these are at most two, else what is had.
func holdAll(t *testing.T, what string, l []Shelf, stripe int, chunks []string, lost ...int) {
	t.Helper()
	quiet(t, what, l, func() {
		t.Helper()
		told := len(lost) <= more
		if told {
			holdLoad(t, "P19.2: "+what, l, stripe, chunks, lost, api.OK)
		} else {
			holdLoad(t, "P19.2: "+what, l, stripe, nil, nil, api.ErrLost)
		}
		for i, c := range chunks {
			if told || !slices.Contains(lost, i) {
				holdOne(t, "P19.3: "+what, l, stripe, i, c, api.OK)
			} else {
				holdOne(t, "P19.3: "+what, l, stripe, i, "", api.ErrLost)
			}
		}
		holdWhole(t, "P19.4: "+what, l, stripe, len(lost) == 0)
	})
}

// holdNone holds what is told where Load has that error, and none of some chunks can be had: the same of each of them.
func holdNone(t *testing.T, what string, l []Shelf, stripe int, e api.Errno, chunks ...int) {
	t.Helper()
	quiet(t, what, l, func() {
		t.Helper()
		holdLoad(t, "P19.2: "+what, l, stripe, nil, nil, e)
		for _, i := range chunks {
			holdOne(t, "P19.3: "+what, l, stripe, i, "", e)
		}
		holdWhole(t, "P19.4: "+what, l, stripe, false)
	})
}

// upTo tells the numbers from 0 to n - 1.
func upTo(n int) []int {
	l := make([]int, n)
	for i := range l {
		l[i] = i
	}
	return l
}

// each goes through all sets of so many of the numbers from 0 to n - 1, each rising.
func each(n, count int, do func(l ...int)) {
	for set := range 1 << n {
		var l []int
		for i := range n {
			if set>>i&1 == 1 {
				l = append(l, i)
			}
		}
		if len(l) == count {
			do(l...)
		}
	}
}

// The limits are the document's.
func TestLimits(t *testing.T) {
	if api.MaxData != most || api.Block != blockBytes || api.TreeAt != firstPair || api.ChunkAt != firstCell || api.Cells != diskCells {
		t.Error("the limits of api aren't those that are tested")
	}
}

// The document's example: of a stripe two of whose disks are dead all chunks are told.
func TestExample(t *testing.T) {
	for data := least; data <= most; data++ {
		each(data+more, 2, func(l ...int) {
			k := together(t, data, 2)
			k.lose(1, dead(), l...)
			for stripe := range 2 {
				holdAll(t, "the example", k.shelves, stripe, k.stripes[stripe], l...)
			}
		})
	}
}

// P19.1: of each number of blocks that there may be: they themselves, and P and Q behind them.
func TestMake(t *testing.T) {
	for data := least; data <= most; data++ {
		for seed := range 50 {
			l := someTexts(data, blockBytes, seed)
			holdMake(t, "P19.1", l, stripeOf(l), api.OK)
		}
		same := slices.Repeat([]string{someText(blockBytes, 5)}, data)
		holdMake(t, "P19.1: all the same", same, stripeOf(same), api.OK)
		none := slices.Repeat([]string{noughts}, data)
		holdMake(t, "P19.1: noughts", none, slices.Repeat([]string{noughts}, data+more), api.OK)
		for i := range data { // each block has its own place
			one := slices.Clone(none)
			one[i] = noughts[:i] + "\x01" + noughts[i+1:]
			want := append(slices.Clone(one), one[i], noughts[:i]+string([]byte{1 << i})+noughts[i+1:])
			holdMake(t, "P19.1: one byte", one, want, api.OK)
		}
	}
}

// P19.1: written out.
func TestMakeWrittenOut(t *testing.T) {
	of := func(b byte) string { return strings.Repeat(string([]byte{b}), blockBytes) }
	holdMake(t, "P19.1: written out", []string{of(1), of(1)}, []string{of(1), of(1), of(0), of(3)}, api.OK)
	holdMake(t, "P19.1: written out", []string{of('a'), of('b')}, []string{of('a'), of('b'), of(3), of(0xa5)}, api.OK)
	holdMake(t, "P19.1: written out", []string{of(0), of(0x80), of(0x80)}, []string{of(0), of(0x80), of(0x80), of(0), of(0x1d ^ 0x3a)}, api.OK)
}

// P19.1: numbers of blocks that no stripe has, whatever the blocks are: ErrArg, ahead of ErrShape.
func TestMakeCounts(t *testing.T) {
	for _, n := range []int{0, 1, 9, 10, 11, 16, 17, 255, 256, 256 + 2, 256 + 8, 1<<16 + 2, 1<<16 + 8} {
		what := "P19.1: " + strconv.Itoa(n) + " blocks"
		holdMake(t, what, slices.Repeat([]string{someText(blockBytes, n)}, n), nil, api.ErrArg)
		for _, bad := range []string{"", "short", someText(31, n), someText(33, n)} {
			holdMake(t, what+", ErrShape too", slices.Repeat([]string{bad}, n), nil, api.ErrArg)
		}
	}
	if l, e := Make(nil); len(l) != 0 || e != api.ErrArg {
		t.Errorf("P19.1: Make(nil): %x, error %d", l, e)
	}
	if l, e := Make([]string{}); len(l) != 0 || e != api.ErrArg {
		t.Errorf("P19.1: Make of an empty list: %x, error %d", l, e)
	}
}

// P19.1: a block at each place that has other than Block bytes; all of them so, of one length.
func TestMakeShapes(t *testing.T) {
	for data := least; data <= most; data++ {
		for _, n := range []int{0, 1, 16, 30, 31, 33, 34, 64, 256, 256 + 32, 1<<16 + 32, api.MaxText, api.MaxText + 1} {
			what := "P19.1: a block of " + strconv.Itoa(n)
			for i := range data {
				l := someTexts(data, blockBytes, n)
				l[i] = someText(n, n)
				holdMake(t, what, l, nil, api.ErrShape)
			}
			holdMake(t, what+", all of them", someTexts(data, n, n), nil, api.ErrShape)
		}
		l := someTexts(data, blockBytes, 1)
		l[0], l[data-1] = l[0][:31], l[data-1]+"x"
		holdMake(t, "P19.1: a byte too few, a byte too many", l, nil, api.ErrShape)
	}
}

// P19.1, rule 4: the answer isn't changed by what becomes of the blocks, and has no other answer's memory.
func TestMakeKeepsNothing(t *testing.T) {
	for data := least; data <= most; data++ {
		l := someTexts(data, blockBytes, 1)
		want := stripeOf(l)
		in := slices.Grow(slices.Clone(l), 5)
		first, _ := Make(in)
		second, _ := Make(in)
		spoil(in)
		if !slices.Equal(first, want) {
			t.Fatalf("rule 4: the answer has the blocks' memory: %x", first)
		}
		spoil(first)
		if !slices.Equal(second, want) {
			t.Fatalf("rule 4: two answers have one memory: %x", second)
		}
	}
}
