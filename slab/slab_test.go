package slab

import (
	"crypto/sha256"
	"encoding/binary"
	"encoding/hex"
	"math"
	"reflect"
	"slices"
	"strconv"
	"strings"
	"testing"

	"cofferdam/aead"
	"cofferdam/api"
	"cofferdam/bank"
	"cofferdam/intent"
)

// The document's numbers: where pairs and cells stand, how many cells a disk of a volume has, and how many bytes things have.
const (
	firstPair   = 100 // that of a node 0, if there were one
	firstCell   = 120
	diskCells   = 140
	blockBytes  = 32
	nonceBytes  = 12
	sealedBytes = 16 // more than what is sealed
	bothBytes   = 64 // of a pair
	mostBytes   = 2032
	cellBytes   = 2048
)

// sizes are the numbers of slots that good slabs have.
var sizes = []int{2, 4, 8, 16}

// ints are edges of ints, and such as become a slot, a disk or a number of slots where they are cut to fewer bits or lose their sign.
var ints = []int{math.MinInt, math.MinInt + 1, math.MinInt + 2, math.MinInt32, -1 << 32, -1<<32 + 2, -256 + 4, -17, -16, -8, -4, -2, -1, 1<<8 + 4, 1<<16 + 8, 1 << 31, 1 << 32, 1<<32 + 1, 1<<32 + 2, 1<<62 + 2, math.MaxInt - 1, math.MaxInt}

var (
	key     = strings.Repeat("k", 32)
	noughts = strings.Repeat("\x00", blockBytes)
)

// The document's digests, by the library.

func leafOf(s string) string {
	d := sha256.Sum256([]byte("\x00" + s))
	return string(d[:])
}

func nodeOf(pair string) string {
	d := sha256.Sum256([]byte("\x01" + pair))
	return string(d[:])
}

// numbers tells them in eight bytes each, the highest first, by the library.
func numbers(l ...int) string {
	var b []byte
	for _, n := range l {
		b = binary.BigEndian.AppendUint64(b, uint64(n))
	}
	return string(b)
}

// plainOf tells a block, another one for each number.
func plainOf(n int) string {
	d := sha256.Sum256([]byte("plain " + strconv.Itoa(n)))
	return string(d[:])
}

// nonceOf tells a nonce, another one for each number.
func nonceOf(n int) string {
	return numbers(7) + numbers(n)[4:]
}

// long tells a text of n bytes, unlike ones, none of which is 0.
func long(n int) string {
	b := make([]byte, n)
	for i := range b {
		b[i] = byte(i+i>>8+n) | 1
	}
	return string(b)
}

// sealedBy tells the cell of a text, whatever its length, by layer 8.
func sealedBy(t *testing.T, key string, disk, slot int, nonce, plain string) string {
	t.Helper()
	sealed, e := aead.Seal(key, nonce, numbers(disk, slot), plain)
	if e != api.OK {
		t.Fatalf("the measure is wrong: layer 8: error %d", e)
	}
	return nonce + sealed
}

// turned tells the text with another byte at a place.
func turned(s string, at int, by byte) string {
	b := []byte(s)
	b[at] ^= by
	return string(b)
}

// wayTo tells the inner nodes over a slot, gone through from the leaf up and told from the top down.
func wayTo(slots, slot int) []int {
	var l []int
	for node := (slots + slot) / 2; node >= 1; node /= 2 {
		l = slices.Insert(l, 0, node)
	}
	return l
}

// digestAt and pairAtNode are the document's words on a tree, one by one, over the cells of all slots.

func digestAt(cells []string, node int) string {
	if node >= len(cells) {
		return leafOf(cells[node-len(cells)])
	}
	return nodeOf(pairAtNode(cells, node))
}

func pairAtNode(cells []string, node int) string {
	return digestAt(cells, 2*node) + digestAt(cells, 2*node+1)
}

// fits: is the slab good, by the document's sentence?
func fits(s Slab) bool {
	return slices.Contains(sizes, s.Slots) && len(s.Key) == 32 && s.Bank != nil && s.Disk >= 0 && s.Disk < s.Bank.Size()
}

// walk is the pairs over slots, by the document's sentences: what was changed, and isn't on the disk.
type walk struct {
	slab  Slab
	top   string
	pairs [16]string
	set   [16]bool
}

// over tells the digest to which the pairs over a slot lead, and keeps them.
func (w *walk) over(slot int) (string, api.Errno) {
	nodes := wayTo(w.slab.Slots, slot)
	for _, node := range nodes {
		if w.set[node] {
			continue
		}
		pair, e := w.slab.Bank.Read(w.slab.Disk, firstPair+node)
		if e != api.OK {
			return "", e
		}
		w.pairs[node] = pair
	}
	now := w.top
	for i, node := range nodes {
		if len(w.pairs[node]) != bothBytes || nodeOf(w.pairs[node]) != now {
			return "", api.ErrSum
		}
		next := w.slab.Slots + slot
		if i+1 < len(nodes) {
			next = nodes[i+1]
		}
		now = half(w.pairs[node], next%2)
	}
	return now, api.OK
}

func half(pair string, side int) string {
	return pair[32*side : 32*side+32]
}

// put changes the pairs over a slot, from the leaf up.
func (w *walk) put(slot int, cell string) {
	digest := leafOf(cell)
	for node := w.slab.Slots + slot; node > 1; node /= 2 {
		pair := w.pairs[node/2]
		if node%2 == 0 {
			pair = digest + half(pair, 1)
		} else {
			pair = half(pair, 0) + digest
		}
		w.pairs[node/2], w.set[node/2] = pair, true
		digest = nodeOf(pair)
	}
	w.top = digest
}

// toldSeal, toldGet, toldPrepare and toldBad tell what the calls answer, by the document's sentences.

func toldSeal(t *testing.T, s Slab, slot int, nonce, plain string) (string, api.Errno) {
	t.Helper()
	switch {
	case !fits(s):
		return "", api.ErrForm
	case slot < 0 || slot >= s.Slots:
		return "", api.ErrArg
	case len(nonce) != nonceBytes || len(plain) != blockBytes:
		return "", api.ErrShape
	}
	return sealedBy(t, s.Key, s.Disk, slot, nonce, plain), api.OK
}

func toldGet(s Slab, top string, slot int) (string, api.Errno) {
	if !fits(s) {
		return "", api.ErrForm
	}
	if slot < 0 || slot >= s.Slots {
		return "", api.ErrArg
	}
	w := walk{slab: s, top: top}
	leaf, e := w.over(slot)
	if e != api.OK {
		return "", e
	}
	cell, e := s.Bank.Read(s.Disk, firstCell+slot)
	switch {
	case e != api.OK:
		return "", e
	case leafOf(cell) != leaf:
		return "", api.ErrSum
	case cell == "":
		return noughts, api.OK
	case len(cell) < nonceBytes:
		return "", api.ErrShort
	}
	return aead.Open(s.Key, cell[:nonceBytes], numbers(s.Disk, slot), cell[nonceBytes:])
}

func toldPrepare(s Slab, top string, l []Change) ([]intent.Write, string, api.Errno) {
	if !fits(s) {
		return nil, "", api.ErrForm
	}
	for _, c := range l {
		if c.Slot < 0 || c.Slot >= s.Slots {
			return nil, "", api.ErrArg
		}
		if len(c.Cell) > mostBytes {
			return nil, "", api.ErrLong
		}
	}
	w := walk{slab: s, top: top}
	for _, c := range l {
		if _, e := w.over(c.Slot); e != api.OK {
			return nil, "", e
		}
		w.put(c.Slot, c.Cell)
	}
	var writes []intent.Write
	for node := range w.set {
		if w.set[node] {
			writes = append(writes, intent.Write{At: firstPair + node, Cell: w.pairs[node]})
		}
	}
	for slot := range s.Slots {
		for _, c := range slices.Backward(l) {
			if c.Slot == slot {
				writes = append(writes, intent.Write{At: firstCell + slot, Cell: c.Cell})
				break
			}
		}
	}
	return writes, w.top, api.OK
}

func toldBad(s Slab, top string) []int {
	if !fits(s) {
		return nil
	}
	var l []int
	for slot := range s.Slots {
		if _, e := toldGet(s, top, slot); e != api.OK {
			l = append(l, slot)
		}
	}
	return l
}

// shot is all that a bank shows of itself.
type shot struct {
	images  [][]string
	waiting []int
	dead    []bool
	steps   int
}

func shotOf(b *bank.Bank) shot {
	s := shot{steps: b.Steps()}
	for i := range b.Size() {
		d := b.Disk(i)
		s.images = append(s.images, d.Image())
		s.waiting = append(s.waiting, d.Waiting())
		s.dead = append(s.dead, d.Dead())
	}
	return s
}

// quiet makes a call, and holds that the bank is as it was then.
func quiet(t *testing.T, what string, b *bank.Bank, call func()) {
	t.Helper()
	was := shotOf(b)
	call()
	if now := shotOf(b); !reflect.DeepEqual(now, was) {
		t.Fatalf("%s: the bank isn't as it was", what)
	}
}

// guarded tells the list with more behind its length, and what holds that all of it is as it was.
func guarded[T comparable](t *testing.T, what string, l []T, guards ...T) ([]T, func()) {
	t.Helper()
	whole := append(slices.Clone(l), guards...)
	was := slices.Clone(whole)
	return whole[:len(l)], func() {
		t.Helper()
		if !slices.Equal(whole, was) {
			t.Fatalf("rule 4: %s: what was handed in has changed", what)
		}
	}
}

// spoil writes over all of a list's memory: what shares it shows so.
func spoil[T any](l []T) {
	clear(l[:cap(l)])
}

// brief tells writes that aren't too many to be looked at.
func brief(l []intent.Write) string {
	s := strconv.Itoa(len(l)) + " writes:"
	for _, w := range l[:min(len(l), 40)] {
		s += " " + strconv.Itoa(w.At) + " " + hex.EncodeToString([]byte(w.Cell[:min(len(w.Cell), 4)])) + " of " + strconv.Itoa(len(w.Cell))
	}
	return s
}

// The hold functions make a call twice, with what the first answered written over, as each answer is its own; and hold that the bank and what was handed in are as they were. What is wanted is held against the document's sentences too.

func holdSeal(t *testing.T, what string, s Slab, slot int, nonce, plain, want string, e api.Errno) {
	t.Helper()
	if w, f := toldSeal(t, s, slot, nonce, plain); w != want || f != e {
		t.Fatalf("%s: the measure is wrong: Seal of slot %d: %x, error %d; want %x, error %d", what, slot, w, f, want, e)
	}
	quiet(t, what, s.Bank, func() {
		for range 2 {
			if c, f := s.Seal(slot, nonce, plain); c != want || f != e {
				t.Fatalf("%s: Seal of slot %d, a nonce of %d and a text of %d bytes: %x, error %d; want %x, error %d", what, slot, len(nonce), len(plain), c, f, want, e)
			}
		}
	})
}

func holdGet(t *testing.T, what string, s Slab, top string, slot int, want string, e api.Errno) {
	t.Helper()
	if w, f := toldGet(s, top, slot); w != want || f != e {
		t.Fatalf("%s: the measure is wrong: Get of slot %d: %x, error %d; want %x, error %d", what, slot, w, f, want, e)
	}
	quiet(t, what, s.Bank, func() {
		for range 2 {
			if c, f := s.Get(top, slot); c != want || f != e {
				t.Fatalf("%s: Get of slot %d of %d: %x, error %d; want %x, error %d", what, slot, s.Slots, c, f, want, e)
			}
		}
	})
}

// holdBad holds what Bad tells, and with it each slot's Get.
func holdBad(t *testing.T, what string, s Slab, top string, want ...int) {
	t.Helper()
	if w := toldBad(s, top); !slices.Equal(w, want) {
		t.Fatalf("%s: the measure is wrong: Bad: %v, want %v", what, w, want)
	}
	quiet(t, what, s.Bank, func() {
		for range 2 {
			l := s.Bad(top)
			if !slices.Equal(l, want) {
				t.Fatalf("%s: Bad: %v, want %v", what, l, want)
			}
			spoil(l)
		}
	})
}

// holdPrepare holds Prepare against the document's sentences, and tells what it answers.
func holdPrepare(t *testing.T, what string, s Slab, top string, l []Change) ([]intent.Write, string, api.Errno) {
	t.Helper()
	writes, now, e := toldPrepare(s, top, l)
	in, hold := guarded(t, what, l, Change{Slot: -7, Cell: "guard"}, Change{Slot: 0, Cell: "guard"})
	quiet(t, what, s.Bank, func() {
		for range 2 {
			got, next, f := s.Prepare(top, in)
			if f != e || next != now || !slices.Equal(got, writes) {
				t.Fatalf("%s: Prepare of %d changes: %s, %x, error %d; want %s, %x, error %d", what, len(l), brief(got), next, f, brief(writes), now, e)
			}
			hold()
			spoil(got)
		}
	})
	return writes, now, e
}

// holdRefused holds that Prepare answers just that error, and nothing beside it.
func holdRefused(t *testing.T, what string, s Slab, top string, l []Change, want api.Errno) {
	t.Helper()
	if writes, now, e := holdPrepare(t, what, s, top, l); e != want || len(writes) > 0 || now != "" {
		t.Fatalf("%s: the measure is wrong: %s, %x, error %d; want error %d", what, brief(writes), now, e, want)
	}
}

// do prepares changes and applies them; the top then.
func do(t *testing.T, s Slab, top string, l ...Change) string {
	t.Helper()
	writes, now, e := holdPrepare(t, "P17.3", s, top, l)
	if e != api.OK {
		t.Fatalf("P17.3: Prepare: error %d", e)
	}
	if e := s.Apply(writes); e != api.OK {
		t.Fatalf("P17.4: Apply: error %d", e)
	}
	return now
}

// blank tells a slab on a new bank of three disks, without chunks, and its top.
func blank(t *testing.T, slots int) (Slab, string) {
	t.Helper()
	return blankOn(t, bank.New(3, diskCells), 1, slots, key)
}

func blankOn(t *testing.T, b *bank.Bank, disk, slots int, key string) (Slab, string) {
	t.Helper()
	s := Slab{Bank: b, Disk: disk, Slots: slots, Key: key}
	l, top, e := s.Blank()
	if e != api.OK || s.Apply(l) != api.OK {
		t.Fatalf("P17.4: Blank: error %d", e)
	}
	return s, top
}

// filled tells one with a chunk in each slot, its top, and the chunks' cells.
func filled(t *testing.T, slots int) (Slab, string, []string) {
	t.Helper()
	s, top := blank(t, slots)
	return fill(t, s, top, 0)
}

// fill puts plainOf(from) and the following into the slots.
func fill(t *testing.T, s Slab, top string, from int) (Slab, string, []string) {
	t.Helper()
	var l []Change
	var cells []string
	for slot := range s.Slots {
		c, e := s.Seal(slot, nonceOf(from+slot), plainOf(from+slot))
		if e != api.OK {
			t.Fatalf("P17.1: error %d", e)
		}
		l, cells = append(l, Change{slot, c}), append(cells, c)
	}
	return s, do(t, s, top, l...), cells
}

// lay puts the cells of all slots, and the pairs of their tree, onto a disk; the tree's top.
func lay(t *testing.T, s Slab, cells []string) string {
	t.Helper()
	d := s.Bank.Disk(s.Disk)
	for node := 1; node < s.Slots; node++ {
		if !d.Tamper(firstPair+node, pairAtNode(cells, node)) {
			t.Fatal("the measure is wrong: no such cell")
		}
	}
	for slot, c := range cells {
		if !d.Tamper(firstCell+slot, c) {
			t.Fatal("the measure is wrong: no such cell")
		}
	}
	return digestAt(cells, 1)
}

// The limits are the document's.
func TestLimits(t *testing.T) {
	if api.TreeAt != firstPair || api.ChunkAt != firstCell || api.Cells != diskCells || api.Block != blockBytes || api.Nonce != nonceBytes || api.MaxCell != cellBytes || api.MaxCell-16 != mostBytes || api.Tag != sealedBytes || api.Key != 32 || api.MaxSlots != 16 {
		t.Error("the limits of api aren't those that are tested")
	}
}

// The document's example: behind Apply of Blank's writes Get of each slot, with Blank's top, is 32 noughts.
func TestExample(t *testing.T) {
	for _, slots := range sizes {
		s, top := blank(t, slots)
		for slot := range slots {
			holdGet(t, "P17.2: the example", s, top, slot, noughts, api.OK)
		}
		holdBad(t, "P17.4: the example", s, top)
	}
}

// named is a slab, and what is to be said of it.
type named struct {
	what string
	slab Slab
}

// notGood tells slabs that aren't good, all but for one thing as that one is, and such as have several faults.
func notGood(s Slab) []named {
	l := []named{
		{"nothing", Slab{}},
		{"no bank", Slab{Disk: s.Disk, Slots: s.Slots, Key: s.Key}},
		{"a bank without disks", Slab{Bank: &bank.Bank{}, Slots: s.Slots, Key: s.Key}},
		{"a bank alone", Slab{Bank: s.Bank}},
	}
	for _, n := range append([]int{0, 1, 3, 5, 6, 7, 9, 10, 12, 15, 17, 18, 24, 31, 32, 64, 128}, ints...) {
		bad := s
		bad.Slots = n
		l = append(l, named{strconv.Itoa(n) + " slots", bad})
	}
	for _, n := range []int{0, 1, 16, 31, 33, 64, 256 + 32, 1<<16 + 32} {
		bad := s
		bad.Key = strings.Repeat("k", n)
		l = append(l, named{"a key of " + strconv.Itoa(n), bad})
	}
	for _, n := range append([]int{-3, s.Bank.Size(), s.Bank.Size() + 1, 12, 140}, ints...) {
		bad := s
		bad.Disk = n
		l = append(l, named{"disk " + strconv.Itoa(n), bad})
	}
	return l
}

// holdNotGood holds that each call of a slab answers ErrForm, with arguments of all kinds, and does nothing.
func holdNotGood(t *testing.T, what string, s Slab, top string, cell string) {
	t.Helper()
	for _, slot := range []int{0, 1, -1, 2, 99, math.MinInt, math.MaxInt} {
		holdSeal(t, what, s, slot, nonceOf(0), plainOf(0), "", api.ErrForm)
		holdSeal(t, what, s, slot, "", "", "", api.ErrForm)
		for _, at := range []string{top, "", "no top"} {
			holdGet(t, what, s, at, slot, "", api.ErrForm)
			holdRefused(t, what, s, at, []Change{{slot, cell}}, api.ErrForm)
			holdRefused(t, what, s, at, []Change{{slot, long(mostBytes + 1)}, {0, cell}}, api.ErrForm)
		}
	}
	holdRefused(t, what, s, top, nil, api.ErrForm)
	holdRefused(t, what, s, top, []Change{}, api.ErrForm)
	for _, at := range []string{top, "", "no top"} {
		holdBad(t, what, s, at)
	}
	lists := [][]intent.Write{nil, {}, {{At: firstPair + 1, Cell: "x"}}, {{At: -1}}, {{At: 0, Cell: long(cellBytes + 1)}}, {{At: 139}, {At: 1000}}}
	quiet(t, what, s.Bank, func() {
		for _, l := range lists {
			if e := s.Apply(l); e != api.ErrForm {
				t.Fatalf("%s: Apply of %d writes: error %d", what, len(l), e)
			}
		}
		if l, now, e := s.Blank(); len(l) > 0 || now != "" || e != api.ErrForm {
			t.Fatalf("%s: Blank: %s, %x, error %d", what, brief(l), now, e)
		}
	})
}

// The sentence ahead of P17.1: of a slab that isn't good each call answers ErrForm, ahead of all other errors, whatever the bank is like.
func TestNotGood(t *testing.T) {
	worlds := []named{{what: "a bank that works"}, {what: "dark"}, {what: "all disks dead"}, {what: "writes wait"}}
	for _, w := range worlds {
		s, top, cells := filled(t, 4)
		switch w.what {
		case "dark":
			s.Bank.Cut(0)
		case "all disks dead":
			for i := range s.Bank.Size() {
				s.Bank.Disk(i).Fail()
			}
		case "writes wait":
			s.Bank.Disk(1).Write(firstCell+1, "waits")
		}
		for _, bad := range notGood(s) {
			holdNotGood(t, "P17: "+w.what+", "+bad.what, bad.slab, top, cells[0])
		}
	}
}

// A slab is good with each number of slots, each disk of its bank, however few cells that has, and each key of 32 bytes.
func TestGood(t *testing.T) {
	for _, disks := range []int{1, 2, 12} {
		for _, cells := range []int{1, diskCells, 512} {
			b := bank.New(disks, cells)
			for disk := range disks {
				for _, slots := range sizes {
					for _, key := range []string{key, strings.Repeat("\x00", 32), strings.Repeat("\xff", 32), plainOf(3)} {
						s := Slab{Bank: b, Disk: disk, Slots: slots, Key: key}
						want := sealedBy(t, key, disk, slots-1, nonceOf(1), plainOf(1))
						holdSeal(t, "P17: a good slab", s, slots-1, nonceOf(1), plainOf(1), want, api.OK)
						if _, _, e := s.Blank(); e != api.OK {
							t.Errorf("P17: a good slab: Blank: error %d", e)
						}
					}
				}
			}
		}
	}
}

// P17.1: cells by another program's seal.
func TestSealBytes(t *testing.T) {
	var k [32]byte
	for i := range k {
		k[i] = byte(0x80 + i)
	}
	nonce := "\x00\x00\x00\x00\x00\x00\x00\x03\x00\x00\x01\x2c"
	sealed := "00000000000000030000012c" + "ee91c662f3afdb89539940755602aadd76c0a9b0a004f37b77cc5733ab0d11a6"
	tags := []struct {
		disk, slot int
		tag        string
	}{
		{1, 5, "3fc9db5c3281a30ee25acf530effb2f8"},
		{0, 0, "c30633f46330434b12b83b7764d9db79"},
		{11, 15, "68b1bd78b382b29404c7c17c3b9892f0"},
		{5, 1, "c502459c7ce0eb718abc6ce6087624f6"},
	}
	for _, x := range tags {
		want, _ := hex.DecodeString(sealed + x.tag)
		s := Slab{Bank: bank.New(12, diskCells), Disk: x.disk, Slots: 16, Key: string(k[:])}
		holdSeal(t, "P17.1: bytes", s, x.slot, nonce, "a block of exactly 32 bytes, so.", string(want), api.OK)
	}
}

// P17.1: of each disk and each slot a chunk has a cell of its own, which layer 8 opens with that disk and that slot.
func TestSealEach(t *testing.T) {
	b := bank.New(12, diskCells)
	seen := map[string]bool{}
	for disk := range 12 {
		for slot := range 16 {
			s := Slab{Bank: b, Disk: disk, Slots: 16, Key: key}
			c, e := s.Seal(slot, nonceOf(9), plainOf(9))
			if e != api.OK || len(c) != nonceBytes+blockBytes+sealedBytes || c[:nonceBytes] != nonceOf(9) || seen[c] {
				t.Fatalf("P17.1: disk %d, slot %d: %x, error %d", disk, slot, c, e)
			}
			seen[c] = true
			if p, e := aead.Open(key, nonceOf(9), numbers(disk, slot), c[nonceBytes:]); p != plainOf(9) || e != api.OK {
				t.Fatalf("P17.1: disk %d, slot %d: %x isn't opened: error %d", disk, slot, c, e)
			}
			holdSeal(t, "P17.1", s, slot, nonceOf(9), plainOf(9), c, api.OK)
		}
	}
	for _, slots := range sizes { // how many slots there are makes no difference to a chunk
		s := Slab{Bank: b, Disk: 3, Slots: slots, Key: key}
		holdSeal(t, "P17.1", s, 1, nonceOf(9), noughts, sealedBy(t, key, 3, 1, nonceOf(9), noughts), api.OK)
	}
}

// P17.1: slots that there aren't, ahead of nonces and texts that haven't their bytes.
func TestSealSlots(t *testing.T) {
	for _, slots := range sizes {
		s := Slab{Bank: bank.New(2, diskCells), Disk: 1, Slots: slots, Key: key}
		for _, slot := range append([]int{-3, slots, slots + 1, 2 * slots, 17, 99, 120, 140}, ints...) {
			for _, nonce := range []string{nonceOf(1), "", nonceOf(1)[:11], nonceOf(1) + "x"} {
				for _, plain := range []string{plainOf(1), "", plainOf(1)[:31], plainOf(1) + "x"} {
					holdSeal(t, "P17.1: no such slot", s, slot, nonce, plain, "", api.ErrArg)
				}
			}
		}
	}
}

// P17.1: nonces and plain texts of each length.
func TestSealShapes(t *testing.T) {
	s := Slab{Bank: bank.New(2, diskCells), Disk: 1, Slots: 8, Key: key}
	for n := range 70 {
		nonce, plain := long(n), long(n)
		if n != nonceBytes {
			holdSeal(t, "P17.1: a nonce", s, 3, nonce, plainOf(1), "", api.ErrShape)
		}
		if n != blockBytes {
			holdSeal(t, "P17.1: a text", s, 3, nonceOf(1), plain, "", api.ErrShape)
		}
		holdSeal(t, "P17.1: both", s, 3, nonce, plain, "", api.ErrShape)
	}
	for _, n := range []int{256 + 12, 256 + 32, mostBytes, cellBytes, api.MaxText / 4, api.MaxText/4 + 1, api.MaxText, api.MaxText + 32, 1<<20 + 12} {
		holdSeal(t, "P17.1: a long nonce", s, 0, long(n), plainOf(1), "", api.ErrShape)
		holdSeal(t, "P17.1: a long text", s, 0, nonceOf(1), long(n), "", api.ErrShape)
	}
	holdSeal(t, "P17.1: their bytes", s, 3, long(12), long(32), sealedBy(t, key, 1, 3, long(12), long(32)), api.OK)
}

// P17.1: Seal asks for no disk and no power.
func TestSealAlone(t *testing.T) {
	s, _ := blank(t, 4)
	want := sealedBy(t, key, 1, 2, nonceOf(1), plainOf(1))
	s.Bank.Cut(0)
	holdSeal(t, "P17.1: dark", s, 2, nonceOf(1), plainOf(1), want, api.OK)
	s.Bank.Disk(1).Fail()
	holdSeal(t, "P17.1: dead", s, 2, nonceOf(1), plainOf(1), want, api.OK)
	holdSeal(t, "P17.1: dead", s, 4, nonceOf(1), plainOf(1), "", api.ErrArg)
	holdSeal(t, "P17.1: dead", s, 2, nonceOf(1), "", "", api.ErrShape)
}
