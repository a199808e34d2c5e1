package nonce

import (
	"encoding/binary"
	"go/ast"
	"go/parser"
	"go/token"
	"math"
	"slices"
	"strconv"
	"strings"
	"testing"

	"cofferdam/api"
)

// The document's numbers: the greatest epoch, the greatest number, and how many bytes a nonce has.
const (
	lastEpoch  = uint64(4294967295)
	lastNumber = uint64(4294967295)
	wholeBytes = 12
)

// greatest is the greatest number that there is of any kind.
const greatest = uint64(math.MaxUint64)

// epochs and nexts are the edges of New's arguments, and such as are others where they are cut to fewer bits or take a sign.
var (
	epochs = []uint64{0, 1, 2, 0x7f, 0x80, 0xff, 0x100, 0xffff, 1 << 16, 1<<24 - 1, 1 << 24, 0x01020304, 1<<31 - 1, 1 << 31, lastEpoch - 1, lastEpoch, lastEpoch + 1, lastEpoch + 2, 1<<32 + 7, 1 << 33, 1<<40 + 1, 1 << 48, 1<<56 | 1, 1<<63 - 1, 1 << 63, 1<<63 + 1, greatest - 1, greatest}
	nexts  = []uint64{0, 1, 2, 0x7f, 0x80, 0xfe, 0xff, 0x100, 0xfffe, 0xffff, 1 << 16, 1<<24 - 2, 1<<24 - 1, 1 << 24, 0x01020304, 1<<31 - 1, 1 << 31, lastNumber - 1, lastNumber, lastNumber + 1, lastNumber + 2, 1<<32 + 7, 1 << 33, 1<<40 + 1, 1<<63 - 1, 1 << 63, 1<<63 + 1, greatest - 1, greatest}
)

// bytesOf tells the 12 bytes of any epoch and number, by the library.
func bytesOf(epoch uint64, number uint32) string {
	b := binary.BigEndian.AppendUint64(nil, epoch)
	return string(binary.BigEndian.AppendUint32(b, number))
}

// epochFits tells whether the document lets New have that epoch.
func epochFits(epoch uint64) bool { return 1 <= epoch && epoch <= lastEpoch }

// fits tells whether the document lets New have both.
func fits(epoch, next uint64) bool { return epochFits(epoch) && next <= lastNumber }

// made tells a new source, which there must be.
func made(t *testing.T, epoch, next uint64) *Source {
	t.Helper()
	s, e := New(epoch, next)
	if s == nil || e != api.OK {
		t.Fatalf("P16.1: New(%d, %d): %v, error %d; want a source", epoch, next, s, e)
	}
	return s
}

// holdLeft holds what Left tells; twice, as telling changes nothing.
func holdLeft(t *testing.T, what string, s *Source, want uint64) {
	t.Helper()
	for range 2 {
		if n := s.Left(); n != want {
			t.Fatalf("%s: Left: %d, want %d", what, n, want)
		}
	}
}

// holdNext holds what the next call of Next answers, of a source whose next number is known, and what is left ahead of it and behind.
func holdNext(t *testing.T, what string, s *Source, epoch, next uint64) {
	t.Helper()
	holdLeft(t, what+": ahead of Next", s, lastNumber-next+1)
	want := bytesOf(epoch, uint32(next))
	if n, e := s.Next(); n != want || len(n) != wholeBytes || e != api.OK {
		t.Fatalf("%s: Next of %d at %d: %x, error %d; want %x", what, epoch, next, n, e, want)
	}
	holdLeft(t, what+": behind Next", s, lastNumber-next)
	holdRead(t, what+": what Next told", want, epoch, next, api.OK)
}

// holdUsed holds that a source tells nothing any more, however often it is called.
func holdUsed(t *testing.T, what string, s *Source) {
	t.Helper()
	for k := range 40 {
		if n, e := s.Next(); n != "" || e != api.ErrUsed {
			t.Fatalf("%s: Next, call %d behind the last: %x, error %d; want nothing and %d", what, k, n, e, api.ErrUsed)
		}
		holdLeft(t, what+": behind the last", s, 0)
	}
}

// holdRead holds what Read answers; twice, as nothing is kept.
func holdRead(t *testing.T, what, n string, epoch, number uint64, want api.Errno) {
	t.Helper()
	for range 2 {
		if a, b, e := Read(n); a != epoch || b != number || e != want {
			t.Fatalf("%s: Read(%x), of %d bytes: %d, %d, error %d; want %d, %d, error %d", what, cut(n), len(n), a, b, e, epoch, number, want)
		}
	}
}

// cut tells the first bytes of a text, to be told in a fault.
func cut(s string) string { return s[:min(len(s), 32)] }

// P16.1: New of each epoch with each next number: a source, or ErrArg and none.
func TestNew(t *testing.T) {
	for _, epoch := range epochs {
		for _, next := range nexts {
			s, e := New(epoch, next)
			if !fits(epoch, next) {
				if s != nil || e != api.ErrArg {
					t.Errorf("P16.1: New(%d, %d): %v, error %d; want none and %d", epoch, next, s, e, api.ErrArg)
				}
				continue
			}
			if s == nil || e != api.OK {
				t.Fatalf("P16.1: New(%d, %d): %v, error %d; want a source", epoch, next, s, e)
			}
			holdNext(t, "P16.1: a first Next", s, epoch, next)
		}
	}
}

// P16.1: the edges by name, so that none of them is lost out of the lists.
func TestNewEdges(t *testing.T) {
	for _, next := range []uint64{0, lastNumber} {
		for _, epoch := range []uint64{1, lastEpoch} {
			holdNext(t, "P16.1: an edge", made(t, epoch, next), epoch, next)
		}
		for _, epoch := range []uint64{0, lastEpoch + 1, greatest} {
			holdRefused(t, epoch, next)
		}
	}
	for _, next := range []uint64{lastNumber + 1, greatest} {
		for _, epoch := range []uint64{0, 1, lastEpoch, lastEpoch + 1, greatest} {
			holdRefused(t, epoch, next)
		}
	}
}

// holdRefused holds that there is no source of both.
func holdRefused(t *testing.T, epoch, next uint64) {
	t.Helper()
	if s, e := New(epoch, next); s != nil || e != api.ErrArg {
		t.Errorf("P16.1: New(%d, %d): %v, error %d; want none and %d", epoch, next, s, e, api.ErrArg)
	}
}

// P16.1: each single bit, and all up to it, as an epoch and as a next number.
func TestNewEachBit(t *testing.T) {
	for i := range 64 {
		for _, n := range []uint64{1 << i, 1<<i - 1 + 1<<i} {
			if n > lastEpoch {
				holdRefused(t, n, 0)
				holdRefused(t, 1, n)
				continue
			}
			holdNext(t, "P16.1: an epoch's bits", made(t, n, 5), n, 5)
			holdNext(t, "P16.1: a number's bits", made(t, 9, n), 9, n)
		}
	}
}

// The document's example.
func TestExample(t *testing.T) {
	n, e := made(t, 1, 0).Next()
	if n != "\x00\x00\x00\x00\x00\x00\x00\x01\x00\x00\x00\x00" || e != api.OK {
		t.Errorf("P16.1: the example: %x, error %d", n, e)
	}
}

// P16.1: a nonce's bytes, written out: the epoch's eight and the number's four, the highest first.
func TestBytes(t *testing.T) {
	for _, x := range []struct {
		epoch, next uint64
		want        string
	}{
		{0x01020304, 0x05060708, "\x00\x00\x00\x00\x01\x02\x03\x04\x05\x06\x07\x08"},
		{0x08070605, 0x04030201, "\x00\x00\x00\x00\x08\x07\x06\x05\x04\x03\x02\x01"},
		{1, 1, "\x00\x00\x00\x00\x00\x00\x00\x01\x00\x00\x00\x01"},
		{0x80, 0x80, "\x00\x00\x00\x00\x00\x00\x00\x80\x00\x00\x00\x80"},
		{0xff000000, 0xff, "\x00\x00\x00\x00\xff\x00\x00\x00\x00\x00\x00\xff"},
		{0xff, 0xff000000, "\x00\x00\x00\x00\x00\x00\x00\xff\xff\x00\x00\x00"},
		{lastEpoch, 0, "\x00\x00\x00\x00\xff\xff\xff\xff\x00\x00\x00\x00"},
		{1, lastNumber, "\x00\x00\x00\x00\x00\x00\x00\x01\xff\xff\xff\xff"},
		{lastEpoch, lastNumber, "\x00\x00\x00\x00\xff\xff\xff\xff\xff\xff\xff\xff"},
	} {
		n, e := made(t, x.epoch, x.next).Next()
		if n != x.want || e != api.OK {
			t.Errorf("P16.1: Next of %x at %x: %x, error %d; want %x", x.epoch, x.next, n, e, x.want)
		}
		holdRead(t, "P16.2: written out", x.want, x.epoch, x.next, api.OK)
	}
}

// P16.1: call by call from 0 on, past 255 and 65535, with all that can be told held at each.
func TestFromZero(t *testing.T) {
	const epoch = 0x0a0b0c0d
	s := made(t, epoch, 0)
	holdLeft(t, "P16.1: a new source", s, lastNumber+1)
	for next := range uint64(65536 + 300) {
		holdNext(t, "P16.1: from 0 on", s, epoch, next)
	}
}

// P16.1: one source from 0 on till its number's highest byte turns over, and behind it.
func TestFarOn(t *testing.T) {
	const epoch, end = 3, 1<<24 + 300
	s := made(t, epoch, 0)
	want := []byte(bytesOf(epoch, 0))
	for next := range uint64(end) {
		binary.BigEndian.PutUint32(want[8:], uint32(next))
		if n, e := s.Next(); n != string(want) || e != api.OK {
			t.Fatalf("P16.1: Next at %d: %x, error %d; want %x", next, n, e, want)
		}
	}
	holdNext(t, "P16.1: far on", s, epoch, end)
}

// P16.1: across each number whose bytes turn over, from sources that begin ahead of it, at each distance.
func TestTurns(t *testing.T) {
	for _, turn := range []uint64{0xff, 0xffff, 0xffffff, 0x1ff, 0x7fff, 0x00ffffff, 0x7fffffff, 0x80ffffff, 0xfeffffff, 0xfffeffff, 0xfffffeff} {
		for ahead := range uint64(5) {
			s := made(t, 77, turn-ahead)
			for k := range uint64(12) {
				holdNext(t, "P16.1: across a turn", s, 77, turn-ahead+k)
			}
		}
	}
}

// P16.1: up to the last number, from each distance to it, and behind it: ErrUsed each time, nothing beside it, none left for ever.
func TestBehindTheLast(t *testing.T) {
	for _, epoch := range []uint64{1, 2, 0x01020304, 1 << 31, lastEpoch} {
		for ahead := range uint64(300) {
			s := made(t, epoch, lastNumber-ahead)
			for k := range ahead + 1 {
				holdNext(t, "P16.1: up to the last", s, epoch, lastNumber-ahead+k)
			}
			holdUsed(t, "P16.1", s)
		}
	}
}

// P16.1: a used source stays used, though others of its epoch are made and called meanwhile.
func TestUsedForEver(t *testing.T) {
	used := made(t, 5, lastNumber)
	holdNext(t, "P16.1: the last alone", used, 5, lastNumber)
	for next := range uint64(200) {
		holdNext(t, "P16.1: another source", made(t, 5, next), 5, next)
		holdUsed(t, "P16.1: beside another source", used)
	}
}

// P16.1: how many Left tells is how many calls of Next are OK.
func TestLeftIsWhatComes(t *testing.T) {
	for left := range uint64(600) {
		if left == 0 {
			continue
		}
		s, calls := made(t, 8, lastNumber+1-left), uint64(0)
		holdLeft(t, "P16.1: a new source", s, left)
		for {
			if _, e := s.Next(); e != api.OK {
				break
			}
			calls++
			holdLeft(t, "P16.1: on the way", s, left-calls)
		}
		if calls != left {
			t.Fatalf("P16.1: %d were left, %d came", left, calls)
		}
	}
}

// P16.1: Left of new sources at all edges, without a call of Next.
func TestLeftOfNew(t *testing.T) {
	for _, epoch := range []uint64{1, lastEpoch} {
		for _, next := range nexts {
			if next <= lastNumber {
				holdLeft(t, "P16.1: a new source", made(t, epoch, next), 4294967296-next)
			}
		}
	}
}

// P16.1, P1: calls of a nil source, by turns.
func TestNil(t *testing.T) {
	var s *Source
	for range 3 {
		if n, e := s.Next(); n != "" || e != api.ErrNil {
			t.Errorf("P16.1: Next of a nil source: %x, error %d; want nothing and %d", n, e, api.ErrNil)
		}
		if n := s.Left(); n != 0 {
			t.Errorf("P16.1: Left of a nil source: %d, want 0", n)
		}
	}
	none, _ := New(0, 0)
	if _, e := none.Next(); e != api.ErrNil {
		t.Errorf("P16.1: Next of what a refused New told: error %d, want %d", e, api.ErrNil)
	}
}

// P2: sources called by turns, of one epoch and number or of unlike ones: each goes its own way.
func TestByTurns(t *testing.T) {
	starts := [][2]uint64{{1, 0}, {1, 0}, {1, 5}, {2, 0}, {lastEpoch, 0}, {1, 250}, {1, 65530}, {7, 1<<24 - 3}, {7, lastNumber - 400}}
	var l []*Source
	for _, x := range starts {
		l = append(l, made(t, x[0], x[1]))
	}
	for k := range uint64(300) {
		for i, s := range l {
			holdNext(t, "P2: by turns, source "+strconv.Itoa(i), s, starts[i][0], starts[i][1]+k)
		}
	}
}

// P2: one source is called often, or used up, while another isn't called: that one's next number stays.
func TestApart(t *testing.T) {
	a, b, last := made(t, 4, 10), made(t, 4, 10), made(t, 4, lastNumber-2)
	for k := range uint64(1000) {
		holdNext(t, "P2: one of two", a, 4, 10+k)
		holdLeft(t, "P2: the other one", b, lastNumber-9)
	}
	for k := range uint64(3) {
		holdNext(t, "P2: one near its end", last, 4, lastNumber-2+k)
	}
	holdUsed(t, "P2: one at its end", last)
	holdNext(t, "P2: the other one", b, 4, 10)
	holdNext(t, "P2: one of two, on", a, 4, 1010)
	if a == b {
		t.Error("P2: New told one source twice")
	}
}

// Rule 3: what New refuses changes no source.
func TestRefusedChangesNothing(t *testing.T) {
	s := made(t, 6, 0)
	for k := range uint64(100) {
		holdRefused(t, 0, k)
		holdRefused(t, 6, lastNumber+1+k)
		holdRefused(t, lastEpoch+1+k, 0)
		holdRead(t, "P16.2: refused", "6", 0, 0, api.ErrShape)
		holdNext(t, "rule 3: beside refused calls", s, 6, k)
	}
}

// Rule 3: asking behind the last number, often, is nothing that Left or Next would count.
func TestUsedCountsNothing(t *testing.T) {
	s := made(t, 6, lastNumber)
	holdNext(t, "rule 3: the last", s, 6, lastNumber)
	for range 5000 {
		if n, e := s.Next(); n != "" || e != api.ErrUsed || s.Left() != 0 {
			t.Fatalf("rule 3: behind the last: %x, error %d, %d left", n, e, s.Left())
		}
	}
}

// Examples of the whole, 7: no nonce comes again within an epoch's source, nor in another epoch.
func TestNoneTwice(t *testing.T) {
	seen := map[string]int{}
	for _, epoch := range []uint64{1, 2, 3, 255, 256, 257, 1 << 16, 1 << 24, 1 << 31, lastEpoch - 1, lastEpoch} {
		for _, next := range []uint64{0, 1 << 16, lastNumber - 999} {
			s := made(t, epoch, next)
			for range 1000 {
				n, e := s.Next()
				seen[n]++
				if seen[n] > 1 || e != api.OK {
					t.Fatalf("P16.1: %x came %d times, error %d", n, seen[n], e)
				}
			}
		}
	}
}

// P16.1: what was told stays as it was while more is told.
func TestToldStays(t *testing.T) {
	s := made(t, 12, 250)
	var told []string
	for range 50 {
		n, _ := s.Next()
		told = append(told, n)
	}
	for i, n := range told {
		if want := bytesOf(12, uint32(250+i)); n != want {
			t.Errorf("P16.1: what was told %d calls ago is %x, want %x", len(told)-i, n, want)
		}
	}
}

// P16.2: ErrShape of each text that hasn't 12 bytes, whatever they are, also where the first eight are no epoch.
func TestReadEachLength(t *testing.T) {
	lengths := []int{24, 32, 64, 255, 256 + 12, 1 << 16, 1<<16 + 12, 1<<20 + 12}
	for n := range 300 {
		lengths = append(lengths, n)
	}
	for _, length := range lengths {
		if length == wholeBytes {
			continue
		}
		for _, b := range []byte{0, 1, '0', 0xff} {
			holdRead(t, "P16.2: a length", strings.Repeat(string([]byte{b}), length), 0, 0, api.ErrShape)
		}
	}
}

// P16.2: a nonce that lacks its last bytes or its first, or has more at either end, is none.
func TestReadCutAndLonger(t *testing.T) {
	n := bytesOf(7, 8)
	for k := range wholeBytes {
		holdRead(t, "P16.2: its first bytes", n[:k], 0, 0, api.ErrShape)
		holdRead(t, "P16.2: its last bytes", n[wholeBytes-k:], 0, 0, api.ErrShape)
		more := strings.Repeat("\x00", k+1)
		holdRead(t, "P16.2: more behind it", n+more, 0, 0, api.ErrShape)
		holdRead(t, "P16.2: more ahead of it", more+n, 0, 0, api.ErrShape)
	}
	holdRead(t, "P16.2: two of them", n+n, 0, 0, api.ErrShape)
	holdRead(t, "P16.2: itself", n, 7, 8, api.OK)
}

// P16.2: 12 bytes of each epoch and of numbers of all kinds: both, or ErrArg and nothing.
func TestRead(t *testing.T) {
	for _, epoch := range epochs {
		for _, next := range nexts {
			number := uint32(next)
			if epochFits(epoch) {
				holdRead(t, "P16.2: an epoch that may be", bytesOf(epoch, number), epoch, uint64(number), api.OK)
			} else {
				holdRead(t, "P16.2: an epoch that may not be", bytesOf(epoch, number), 0, 0, api.ErrArg)
			}
		}
	}
}

// P16.2: Read's epochs are New's: of each, both take it or both refuse it.
func TestReadAsNew(t *testing.T) {
	for i := range 64 {
		for _, epoch := range []uint64{1 << i, 1<<i - 1, 1<<i + 1, greatest - 1<<i} {
			_, want := New(epoch, 0)
			if _, _, e := Read(bytesOf(epoch, 0)); e != want || want != api.OK && want != api.ErrArg {
				t.Errorf("P16.2: of the epoch %d New answers %d, Read %d", epoch, want, e)
			}
		}
	}
}

// P16.2: each byte of a nonce, at each place: its own worth, and no other byte's.
func TestReadEachByte(t *testing.T) {
	for at := range wholeBytes {
		for b := range 256 {
			n := []byte(bytesOf(0x11223344, 0x55667788))
			n[at] = byte(b)
			epoch, number := binary.BigEndian.Uint64(n), uint64(binary.BigEndian.Uint32(n[8:]))
			if epochFits(epoch) {
				holdRead(t, "P16.2: each byte", string(n), epoch, number, api.OK)
			} else {
				holdRead(t, "P16.2: each byte", string(n), 0, 0, api.ErrArg)
			}
		}
	}
}

// P16.2, rule 1: ErrShape ahead of ErrArg, where the bytes that are there are no epoch either.
func TestReadOrderOfErrors(t *testing.T) {
	for _, epoch := range []uint64{0, lastEpoch + 1, greatest} {
		n := bytesOf(epoch, 9)
		for k := range wholeBytes {
			holdRead(t, "P16.2: both errors, shorter", n[:k], 0, 0, api.ErrShape)
			holdRead(t, "P16.2: both errors, longer", n+n[:k+1], 0, 0, api.ErrShape)
		}
		holdRead(t, "P16.2: ErrArg alone", n, 0, 0, api.ErrArg)
	}
}

// Rule 6: what counts is bytes, not runes.
func TestReadRunes(t *testing.T) {
	holdRead(t, "P16.2: 12 runes of two bytes", strings.Repeat("ä", 12), 0, 0, api.ErrShape)
	holdRead(t, "P16.2: 6 runes of two bytes", strings.Repeat("ä", 6), 0, 0, api.ErrArg)
	holdRead(t, "P16.2: 4 runes of two bytes behind four zeroes", "\x00\x00\x00\x00"+strings.Repeat("ä", 4), 0xc3a4c3a4, 0xc3a4c3a4, api.OK)
}

// Rule 4: Read looks at its text alone, also where that is a piece of a longer one.
func TestReadAPiece(t *testing.T) {
	long := strings.Repeat("\xff", 20) + bytesOf(4, 5) + strings.Repeat("\xff", 20)
	holdRead(t, "P16.2: a piece", long[20:32], 4, 5, api.OK)
	holdRead(t, "P16.2: a piece, one byte less", long[20:31], 0, 0, api.ErrShape)
	holdRead(t, "P16.2: a piece, one place on", long[21:33], 0x400, 0x5ff, api.OK)
	holdRead(t, "P16.2: a piece, one place ahead", long[19:31], 0, 0, api.ErrArg)
}

// chance tells numbers that look like chance, the same ones each time.
type chance uint64

func (c *chance) next() uint64 {
	*c = *c*6364136223846793005 + 1442695040888963407
	return uint64(*c) ^ uint64(*c)>>29
}

func (c *chance) below(n int) int { return int(c.next() >> 11 % uint64(n)) }

// number tells a number: of any size, or near an edge.
func (c *chance) number() uint64 {
	switch c.below(4) {
	case 0:
		return c.next() >> c.below(64)
	case 1:
		return uint64(c.below(4))
	case 2:
		return lastNumber - 2 + uint64(c.below(5))
	}
	return uint64(1)<<(8*c.below(8)) - 3 + uint64(c.below(6))
}

// model is a source by the document's sentence: it keeps what was told last.
type model struct {
	epoch, first uint64
	told         uint64 // how many
}

func (m *model) next() (string, api.Errno) {
	if m.told > 0 && m.first+m.told-1 == lastNumber {
		return "", api.ErrUsed
	}
	m.told++
	return bytesOf(m.epoch, uint32(m.first+m.told-1)), api.OK
}

func (m *model) left() uint64 { return lastNumber + 1 - (m.first + m.told) }

// P16.1, P16.2, P2: rows of calls of several sources by chance, against the document's sentences.
func TestRowsOfCalls(t *testing.T) {
	for seed := range 200 {
		c := chance(seed)
		var sources []*Source
		var models []*model
		for range 200 {
			if len(sources) == 0 || c.below(8) == 0 {
				epoch, next := c.number(), c.number()
				s, e := New(epoch, next)
				if (e == api.OK) != fits(epoch, next) || (s != nil) != (e == api.OK) {
					t.Fatalf("P16.1: New(%d, %d): %v, error %d", epoch, next, s, e)
				}
				if s != nil {
					sources, models = append(sources, s), append(models, &model{epoch: epoch, first: next})
				}
				continue
			}
			i := c.below(len(sources))
			holdRow(t, seed, sources[i], models[i])
		}
	}
}

// holdRow holds one source's next call against its model's.
func holdRow(t *testing.T, seed int, s *Source, m *model) {
	t.Helper()
	if n := s.Left(); n != m.left() {
		t.Fatalf("P16.1: row %d: Left of %#v: %d, want %d", seed, *m, n, m.left())
	}
	n, e := s.Next()
	want, fault := m.next()
	if n != want || e != fault {
		t.Fatalf("P16.1: row %d: Next: %x, error %d; want %x, error %d, %#v", seed, n, e, want, fault, *m)
	}
	if e == api.OK {
		holdRead(t, "P16.2: row "+strconv.Itoa(seed), n, m.epoch, m.first+m.told-1, api.OK)
	}
}

// P16.2: texts of chance, of 12 bytes or nearly so.
func TestReadChance(t *testing.T) {
	c := chance(16)
	for range 20000 {
		n := bytesOf(c.number(), uint32(c.number()))
		if c.below(8) == 0 {
			n = n[c.below(3):]
		}
		switch epoch := binary.BigEndian.Uint64([]byte(n)); {
		case len(n) != wholeBytes:
			holdRead(t, "P16.2: by chance", n, 0, 0, api.ErrShape)
		case !epochFits(epoch):
			holdRead(t, "P16.2: by chance", n, 0, 0, api.ErrArg)
		default:
			holdRead(t, "P16.2: by chance", n, epoch, uint64(binary.BigEndian.Uint32([]byte(n[8:]))), api.OK)
		}
	}
}

// The lists of edges have the issue's own in them.
func TestEdgesAreThere(t *testing.T) {
	for _, n := range []uint64{0, 1, lastEpoch, lastEpoch + 1, greatest} {
		if !slices.Contains(epochs, n) || !slices.Contains(nexts, n) {
			t.Errorf("the edge %d is lacking", n)
		}
	}
	if api.MaxEpoch != lastEpoch || api.MaxSeq != lastNumber || api.Nonce != wholeBytes {
		t.Error("the limits are others than the document's")
	}
}

// Ways, layer 16: a number's word is the one of an array, the highest byte first.
func TestWord(t *testing.T) {
	for _, next := range nexts {
		four := binary.BigEndian.AppendUint32(nil, uint32(next))
		if got := number(string(four)); got != uint64(uint32(next)) {
			t.Errorf("Ways: the number of %x is %x", four, got)
		}
	}
}

// Ways, layer 16: and Read reads it as such: in what it calls of its own, a word is turned into an array, which is asked.
func TestReadAsArray(t *testing.T) {
	file, err := parser.ParseFile(token.NewFileSet(), "nonce.go", nil, 0)
	if err != nil {
		t.Fatal(err)
	}
	bodies := map[string]*ast.BlockStmt{}
	for _, d := range file.Decls {
		if f, ok := d.(*ast.FuncDecl); ok && f.Recv == nil {
			bodies[f.Name.Name] = f.Body
		}
	}
	found := hasWordArray(bodies["Read"])
	ast.Inspect(bodies["Read"], func(n ast.Node) bool {
		if call, ok := n.(*ast.CallExpr); ok {
			if name, ok := call.Fun.(*ast.Ident); ok && bodies[name.Name] != nil {
				found = found || hasWordArray(bodies[name.Name])
			}
		}
		return true
	})
	if !found {
		t.Error("Ways: Read doesn't read its number's word as an array")
	}
}

// hasWordArray tells whether a function makes an array of one word.
func hasWordArray(body *ast.BlockStmt) bool {
	found := false
	ast.Inspect(body, func(n ast.Node) bool {
		a, ok := n.(*ast.ArrayType)
		if !ok {
			return true
		}
		length, whole := a.Len.(*ast.BasicLit)
		word, plain := a.Elt.(*ast.Ident)
		found = found || whole && plain && length.Value == "1" && word.Name == "uint32"
		return true
	})
	return found
}
