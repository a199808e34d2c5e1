package layout

import (
	"fmt"
	"math"
	"slices"
	"testing"

	"cofferdam/api"
)

// The document's numbers: how many data chunks a stripe has, at least and at most, and how many parity chunks are behind them.
const (
	fewest   = 2
	most     = 8
	parities = 2
)

// sizes are the numbers of slots that good layouts have.
var sizes = []int{2, 4, 8, 16}

// ints are edges of ints, and such as become a block, a stripe, a chunk or a seat where they are cut to fewer bits, lose their sign, or are reckoned with beyond what an int may be.
var ints = []int{
	math.MinInt, math.MinInt + 1, math.MinInt + 2, math.MinInt/2 - 1, math.MinInt / 2, math.MinInt32 - 1, math.MinInt32, -1<<32 + 1, -1 << 32, -256 + 2, -17, -16, -9, -8, -5, -4, -3, -2, -1,
	256, 256 + 2, 1<<16 + 4, math.MaxInt32, 1 << 31, 1<<31 + 1, 1 << 32, 1<<32 + 1, 1<<32 + 2, 1 << 62, 1<<62 + 2, math.MaxInt/2 + 1, math.MaxInt - 16, math.MaxInt - 2, math.MaxInt - 1, math.MaxInt,
}

// around tells the numbers from low to high, and the edges of ints.
func around(low, high int) []int {
	l := slices.Clone(ints)
	for n := low; n <= high; n++ {
		l = append(l, n)
	}
	return l
}

// goods tells every good layout, by the document's sentence.
func goods() []Layout {
	var l []Layout
	for data := fewest; data <= most; data++ {
		for _, slots := range sizes {
			l = append(l, Layout{Data: data, Slots: slots})
			for mark := range slots {
				if data < most {
					l = append(l, Layout{Data: data, Slots: slots, Mark: mark, Growing: true})
				}
			}
		}
	}
	return l
}

// chart is a layout laid out by the document's sentences: of each stripe the blocks that its data chunks are, and the chunks by their seats.
type chart struct {
	blocks, seats [][]int
	fresh         int // how many blocks lie in new stripes; there may be more places for them than there are blocks
}

func chartOf(l Layout) chart {
	c := chart{fresh: l.Mark * (l.Data + 1)}
	for t := range l.Slots {
		k := l.Data
		if l.Growing && t < l.Mark {
			k = l.Data + 1
		}
		var blocks []int
		for i := range k {
			blocks = append(blocks, t*k+i)
		}
		seats := make([]int, k+parities)
		for chunk := range seats {
			seats[(chunk+t)%(k+parities)] = chunk
		}
		c.blocks, c.seats = append(c.blocks, blocks), append(c.seats, seats)
	}
	return c
}

// isNew: is a stripe of the chart that of a new one, for the layout it was made of?
func (c chart) isNew(l Layout, stripe int) bool {
	return len(c.blocks[stripe]) == l.Data+1
}

// find tells where a block lies, by looking through all stripes of the kind in which it does.
func (c chart) find(l Layout, block int) (int, int, api.Errno) {
	if block < 0 || block >= l.Slots*l.Data {
		return 0, 0, api.ErrArg
	}
	for stripe, blocks := range c.blocks {
		if c.isNew(l, stripe) != (block < c.fresh) {
			continue
		}
		if i := slices.Index(blocks, block); i >= 0 {
			return stripe, i, api.OK
		}
	}
	return 0, 0, -1 // the document leaves no block out
}

// seat and chunk look for a chunk's seat, and for a seat's chunk.

func (c chart) seat(stripe, chunk int) (int, api.Errno) {
	if stripe < 0 || stripe >= len(c.seats) {
		return 0, api.ErrArg
	}
	if i := slices.Index(c.seats[stripe], chunk); i >= 0 {
		return i, api.OK
	}
	return 0, api.ErrArg
}

func (c chart) chunk(stripe, seat int) (int, bool) {
	if stripe < 0 || stripe >= len(c.seats) || seat < 0 || seat >= len(c.seats[stripe]) {
		return 0, false
	}
	return c.seats[stripe][seat], true
}

func (c chart) wide(stripe int) int {
	if stripe < 0 || stripe >= len(c.blocks) {
		return 0
	}
	return len(c.blocks[stripe])
}

// moves tells the blocks of the stripe Mark, laid out as it will be when it is new.
func moves(l Layout) []int {
	blocks := []int{}
	for block := range l.Slots * (l.Data + 1) {
		if block/(l.Data+1) == l.Mark {
			blocks = append(blocks, block)
		}
	}
	return blocks
}

// holdRefused: each call of a layout that isn't good answers as the sentence ahead of P18.1 says, with the zero value beside it.
func holdRefused(t *testing.T, l Layout, a, b int) {
	t.Helper()
	if l.Good() || l.Blocks() != 0 || l.Wide(a) != 0 {
		t.Fatalf("P18.1: %+v: good %v, %d blocks, stripe %d is %d wide", l, l.Good(), l.Blocks(), a, l.Wide(a))
	}
	if stripe, chunk, e := l.Find(a); stripe != 0 || chunk != 0 || e != api.ErrForm {
		t.Fatalf("P18.2: %+v: Find(%d): %d, %d, error %d", l, a, stripe, chunk, e)
	}
	if seat, e := l.Seat(a, b); seat != 0 || e != api.ErrForm {
		t.Fatalf("P18.3: %+v: Seat(%d, %d): %d, error %d", l, a, b, seat, e)
	}
	if chunk, ok := l.Chunk(a, b); chunk != 0 || ok {
		t.Fatalf("P18.3: %+v: Chunk(%d, %d): %d, %v", l, a, b, chunk, ok)
	}
	if blocks, e := l.Moves(); len(blocks) != 0 || e != api.ErrForm {
		t.Fatalf("P18.4: %+v: Moves: %v, error %d", l, blocks, e)
	}
	if next, e := l.Step(); next != (Layout{}) || e != api.ErrForm {
		t.Fatalf("P18.4: %+v: Step: %+v, error %d", l, next, e)
	}
}

// P18, the sentence ahead of P18.1: the layouts that aren't good by one thing alone, with all numbers at their calls.
func TestRefused(t *testing.T) {
	var l []Layout
	for _, data := range append([]int{1, 0, 9, 10, 16}, ints...) {
		l = append(l, Layout{Data: data, Slots: 4}, Layout{Data: data, Slots: 4, Growing: true}, Layout{Data: data, Slots: 4, Mark: 2, Growing: true})
	}
	l = append(l, Layout{Data: most, Slots: 2, Growing: true}, Layout{Data: most, Slots: 16, Mark: 3, Growing: true})
	for _, slots := range append([]int{0, 1, 3, 5, 6, 7, 9, 10, 12, 14, 15, 17, 32, 64}, ints...) {
		l = append(l, Layout{Data: 2, Slots: slots}, Layout{Data: 2, Slots: slots, Growing: true}, Layout{Data: 7, Slots: slots, Mark: 1, Growing: true})
	}
	for _, mark := range append([]int{16, 17, 32}, ints...) {
		l = append(l, Layout{Data: 2, Slots: 16, Mark: mark}, Layout{Data: 7, Slots: 16, Mark: mark, Growing: true}, Layout{Data: 2, Slots: 2, Mark: mark, Growing: true})
	}
	for _, slots := range sizes {
		l = append(l, Layout{Data: 2, Slots: slots, Mark: slots, Growing: true}, Layout{Data: 2, Slots: slots, Mark: slots + 1, Growing: true})
		for mark := 1; mark <= slots; mark++ {
			l = append(l, Layout{Data: 3, Slots: slots, Mark: mark})
		}
	}
	numbers := around(0, 17)
	for _, bad := range append(l, Layout{}, Layout{Growing: true}) {
		for _, a := range numbers {
			for _, b := range numbers {
				holdRefused(t, bad, a, b)
			}
		}
	}
}

// P18.1: of all layouts with small numbers those are good that the document's sentence names, and no others; of the others each call is refused.
func TestGood(t *testing.T) {
	good := map[Layout]bool{}
	for _, l := range goods() {
		good[l] = true
	}
	if len(good) != 208 {
		t.Fatalf("the measure is wrong: %d good layouts", len(good))
	}
	found := 0
	for data := -3; data <= 20; data++ {
		for slots := -3; slots <= 66; slots++ {
			for mark := -3; mark <= 34; mark++ {
				for _, growing := range []bool{false, true} {
					l := Layout{Data: data, Slots: slots, Mark: mark, Growing: growing}
					if l.Good() != good[l] {
						t.Fatalf("P18.1: %+v: good %v", l, l.Good())
					}
					if good[l] {
						found++
						continue
					}
					holdRefused(t, l, 0, 0)
					holdRefused(t, l, 1, 2)
				}
			}
		}
	}
	if found != len(good) {
		t.Errorf("P18.1: %d good layouts, want %d", found, len(good))
	}
}

// P18.1, rule 5: layouts with numbers at the ends of what an int may be, in one, two or all of their places, aren't good.
func TestGoodAtTheEnds(t *testing.T) {
	numbers := append([]int{0, 1, 2, 4, 7, 8, 16}, ints...)
	isEnd := func(n int) bool { return n < 0 || n > 16 }
	for _, data := range numbers {
		for _, slots := range numbers {
			for _, mark := range numbers {
				if !isEnd(data) && !isEnd(slots) && !isEnd(mark) {
					continue
				}
				for _, growing := range []bool{false, true} {
					l := Layout{Data: data, Slots: slots, Mark: mark, Growing: growing}
					holdRefused(t, l, mark, data)
					holdRefused(t, l, 0, 0)
				}
			}
		}
	}
}

// P18.1: Blocks and Wide of every good layout, Wide of stripes that there aren't too.
func TestBlocksAndWide(t *testing.T) {
	for _, l := range goods() {
		if !l.Good() || l.Blocks() != l.Slots*l.Data {
			t.Fatalf("P18.1: %+v: good %v, %d blocks", l, l.Good(), l.Blocks())
		}
		c := chartOf(l)
		for _, stripe := range around(-40, 200) {
			if n := l.Wide(stripe); n != c.wide(stripe) {
				t.Fatalf("P18.1: %+v: stripe %d is %d wide, want %d", l, stripe, n, c.wide(stripe))
			}
		}
	}
}

// P18.1: written out, of a volume that grows: stripes below Mark have a data chunk more, and at Mark 0 none has.
func TestWideWrittenOut(t *testing.T) {
	for mark, want := range []string{"[2 2 2 2]", "[3 2 2 2]", "[3 3 2 2]", "[3 3 3 2]"} {
		l := Layout{Data: 2, Slots: 4, Mark: mark, Growing: true}
		var wide []int
		for stripe := range 4 {
			wide = append(wide, l.Wide(stripe))
		}
		if fmt.Sprint(wide) != want || l.Blocks() != 8 {
			t.Errorf("P18.1: at Mark %d stripes are %v wide, want %s; %d blocks", mark, wide, want, l.Blocks())
		}
	}
}

// P18.2: every block of every good layout, and those that there aren't.
func TestFind(t *testing.T) {
	for _, l := range goods() {
		c := chartOf(l)
		for _, block := range around(-40, 300) {
			stripe, chunk, e := l.Find(block)
			wantStripe, wantChunk, want := c.find(l, block)
			if stripe != wantStripe || chunk != wantChunk || e != want {
				t.Fatalf("P18.2: %+v: Find(%d): %d, %d, error %d, want %d, %d, error %d", l, block, stripe, chunk, e, wantStripe, wantChunk, want)
			}
		}
	}
}

// P18.2: the blocks at both sides of Mark·(Data + 1): the last of the last new stripe, and the first that lies in an old one.
func TestFindAtTheMark(t *testing.T) {
	for _, l := range goods() {
		edge := l.Mark * (l.Data + 1)
		if !l.Growing || l.Mark == 0 || edge > l.Blocks() {
			continue
		}
		if stripe, chunk, e := l.Find(edge - 1); stripe != l.Mark-1 || chunk != l.Data || e != api.OK {
			t.Errorf("P18.2: %+v: Find(%d): %d, %d, error %d", l, edge-1, stripe, chunk, e)
		}
		stripe, chunk, e := l.Find(edge)
		if edge == l.Blocks() {
			if stripe != 0 || chunk != 0 || e != api.ErrArg {
				t.Errorf("P18.2: %+v: Find(%d): %d, %d, error %d", l, edge, stripe, chunk, e)
			}
			continue
		}
		if stripe < l.Mark || stripe*l.Data+chunk != edge || chunk >= l.Data || e != api.OK {
			t.Errorf("P18.2: %+v: Find(%d): %d, %d, error %d", l, edge, stripe, chunk, e)
		}
	}
}

// P18.2: written out, with each Mark of Data 2 and Slots 4, and of one all of whose blocks lie in new stripes ahead of the last step.
func TestFindWrittenOut(t *testing.T) {
	for _, x := range []struct {
		l    Layout
		want string
	}{
		{Layout{Data: 2, Slots: 4}, " 0.0 0.1 1.0 1.1 2.0 2.1 3.0 3.1"},
		{Layout{Data: 2, Slots: 4, Growing: true}, " 0.0 0.1 1.0 1.1 2.0 2.1 3.0 3.1"},
		{Layout{Data: 2, Slots: 4, Mark: 1, Growing: true}, " 0.0 0.1 0.2 1.1 2.0 2.1 3.0 3.1"},
		{Layout{Data: 2, Slots: 4, Mark: 2, Growing: true}, " 0.0 0.1 0.2 1.0 1.1 1.2 3.0 3.1"},
		{Layout{Data: 2, Slots: 4, Mark: 3, Growing: true}, " 0.0 0.1 0.2 1.0 1.1 1.2 2.0 2.1"},
		{Layout{Data: 3, Slots: 4}, " 0.0 0.1 0.2 1.0 1.1 1.2 2.0 2.1 2.2 3.0 3.1 3.2"},
		{Layout{Data: 2, Slots: 8, Mark: 7, Growing: true}, " 0.0 0.1 0.2 1.0 1.1 1.2 2.0 2.1 2.2 3.0 3.1 3.2 4.0 4.1 4.2 5.0"},
	} {
		places := ""
		for block := range x.l.Blocks() {
			stripe, chunk, e := x.l.Find(block)
			places += fmt.Sprintf(" %d.%d", stripe, chunk)
			if e != api.OK {
				t.Errorf("P18.2: %+v: Find(%d): error %d", x.l, block, e)
			}
		}
		if places != x.want {
			t.Errorf("P18.2: %+v: blocks lie at%s, want%s", x.l, places, x.want)
		}
	}
}

// P18.2: no two blocks lie in one place, and each in a data chunk that its stripe has.
func TestFindTellsPlacesApart(t *testing.T) {
	for _, l := range goods() {
		taken := map[[2]int]int{}
		for block := range l.Blocks() {
			stripe, chunk, e := l.Find(block)
			if e != api.OK || chunk < 0 || chunk >= l.Wide(stripe) {
				t.Fatalf("P18.2: %+v: Find(%d): %d, %d, error %d", l, block, stripe, chunk, e)
			}
			if other, ok := taken[[2]int{stripe, chunk}]; ok {
				t.Fatalf("P18.2: %+v: blocks %d and %d lie in one place", l, other, block)
			}
			taken[[2]int{stripe, chunk}] = block
		}
	}
}

// P18.3: every chunk of every stripe, P and Q too, and chunks and stripes that there aren't.
func TestSeat(t *testing.T) {
	stripes, chunks := around(-20, 40), around(-20, 30)
	for _, l := range goods() {
		c := chartOf(l)
		for _, stripe := range stripes {
			for _, chunk := range chunks {
				seat, e := l.Seat(stripe, chunk)
				wantSeat, want := c.seat(stripe, chunk)
				if seat != wantSeat || e != want {
					t.Fatalf("P18.3: %+v: Seat(%d, %d): %d, error %d, want %d, error %d", l, stripe, chunk, seat, e, wantSeat, want)
				}
			}
		}
	}
}

// P18.3: every seat of every stripe, and seats and stripes that there aren't.
func TestChunk(t *testing.T) {
	stripes, seats := around(-20, 40), around(-20, 30)
	for _, l := range goods() {
		c := chartOf(l)
		for _, stripe := range stripes {
			for _, seat := range seats {
				chunk, ok := l.Chunk(stripe, seat)
				wantChunk, want := c.chunk(stripe, seat)
				if chunk != wantChunk || ok != want {
					t.Fatalf("P18.3: %+v: Chunk(%d, %d): %d, %v, want %d, %v", l, stripe, seat, chunk, ok, wantChunk, want)
				}
			}
		}
	}
}

// P18.3: while a volume grows, an old stripe has no chunk on the last seat, and a new one has.
func TestLastSeat(t *testing.T) {
	for _, l := range goods() {
		if !l.Growing {
			continue
		}
		last := l.Data + parities
		for stripe := range l.Slots {
			chunk, ok := l.Chunk(stripe, last)
			if ok != (stripe < l.Mark) || !ok && chunk != 0 {
				t.Errorf("P18.3: %+v: Chunk(%d, %d): %d, %v", l, stripe, last, chunk, ok)
			}
			seat, e := l.Seat(stripe, last)
			if (e == api.OK) != (stripe < l.Mark) || e != api.OK && (seat != 0 || e != api.ErrArg) {
				t.Errorf("P18.3: %+v: Seat(%d, %d): %d, error %d", l, stripe, last, seat, e)
			}
		}
	}
}

// P18.3: Seat and Chunk undo each other, and so each seat of a stripe has one chunk.
func TestSeatAndChunk(t *testing.T) {
	for _, l := range goods() {
		for stripe := range l.Slots {
			for i := range l.Wide(stripe) + parities {
				seat, e := l.Seat(stripe, i)
				back, ok := l.Chunk(stripe, seat)
				if e != api.OK || !ok || back != i {
					t.Fatalf("P18.3: %+v: Seat(%d, %d): %d, error %d; Chunk there: %d, %v", l, stripe, i, seat, e, back, ok)
				}
				chunk, ok := l.Chunk(stripe, i)
				back, e = l.Seat(stripe, chunk)
				if e != api.OK || !ok || back != i {
					t.Fatalf("P18.3: %+v: Chunk(%d, %d): %d, %v; Seat there: %d, error %d", l, stripe, i, chunk, ok, back, e)
				}
			}
		}
	}
}

// P18.3: written out: which chunk lies on which seat, a line a stripe, with stripes in which the chunks have gone round more than once.
func TestSeatsWrittenOut(t *testing.T) {
	for _, x := range []struct {
		l    Layout
		want []string
	}{
		{Layout{Data: 2, Slots: 8}, []string{"[0 1 2 3]", "[3 0 1 2]", "[2 3 0 1]", "[1 2 3 0]", "[0 1 2 3]", "[3 0 1 2]", "[2 3 0 1]", "[1 2 3 0]"}},
		{Layout{Data: 2, Slots: 8, Mark: 6, Growing: true}, []string{"[0 1 2 3 4]", "[4 0 1 2 3]", "[3 4 0 1 2]", "[2 3 4 0 1]", "[1 2 3 4 0]", "[0 1 2 3 4]", "[2 3 0 1]", "[1 2 3 0]"}},
		{Layout{Data: 8, Slots: 2}, []string{"[0 1 2 3 4 5 6 7 8 9]", "[9 0 1 2 3 4 5 6 7 8]"}},
	} {
		for stripe, want := range x.want {
			var chunks []int
			for seat := range most + parities + 1 {
				if chunk, ok := x.l.Chunk(stripe, seat); ok {
					chunks = append(chunks, chunk)
				}
			}
			if fmt.Sprint(chunks) != want {
				t.Errorf("P18.3: %+v: stripe %d lies as %v, want %s", x.l, stripe, chunks, want)
			}
		}
	}
	for slots, want := range map[int]string{2: "[9 0]", 4: "[9 0 1 2]", 8: "[9 0 1 2 3 4 5 6]", 16: "[9 0 1 2 3 4 5 6 7 8 9 0 1 2 3 4]"} {
		l := Layout{Data: 8, Slots: slots}
		var seats []int
		for stripe := range slots {
			seat, _ := l.Seat(stripe, 9)
			seats = append(seats, seat)
		}
		if fmt.Sprint(seats) != want {
			t.Errorf("P18.3: %+v: Q lies on the seats %v, want %s", l, seats, want)
		}
	}
}

// The document's examples.
func TestExamples(t *testing.T) {
	l := Layout{Data: 2, Slots: 4}
	stripe, chunk, e := l.Find(5)
	if stripe != 2 || chunk != 1 || e != api.OK {
		t.Errorf("P18.2: Find(5): %d, %d, error %d", stripe, chunk, e)
	}
	if seat, e := l.Seat(2, 1); seat != 3 || e != api.OK {
		t.Errorf("P18.3: Seat(2, 1): %d, error %d", seat, e)
	}
	if chunk, ok := l.Chunk(2, 3); chunk != 1 || !ok {
		t.Errorf("P18.3: Chunk(2, 3): %d, %v", chunk, ok)
	}
	l = Layout{Data: 2, Slots: 4, Mark: 1, Growing: true}
	if stripe, chunk, e := l.Find(2); stripe != 0 || chunk != 2 || e != api.OK {
		t.Errorf("P18.2: growing, Find(2): %d, %d, error %d", stripe, chunk, e)
	}
}
