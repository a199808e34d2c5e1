package layout

import (
	"fmt"
	"slices"
	"testing"

	"cofferdam/api"
)

// P18.4: Moves of every good layout: an error where nothing grows, else the blocks of the stripe Mark, also those from Blocks on.
func TestMoves(t *testing.T) {
	beyond := 0
	for _, l := range goods() {
		blocks, e := l.Moves()
		if !l.Growing {
			if len(blocks) != 0 || e != api.ErrState {
				t.Errorf("P18.4: %+v: Moves: %v, error %d", l, blocks, e)
			}
			continue
		}
		if !slices.Equal(blocks, moves(l)) || len(blocks) != l.Data+1 || e != api.OK {
			t.Errorf("P18.4: %+v: Moves: %v, error %d, want %v", l, blocks, e, moves(l))
		}
		for _, block := range blocks {
			if _, _, e := l.Find(block); block >= l.Blocks() {
				beyond++
				if e != api.ErrArg {
					t.Errorf("P18.4: %+v: the block %d is there already: error %d", l, block, e)
				}
			}
		}
	}
	if beyond != 6*(2+4+8+16) { // each of the six growths of a volume adds as many blocks as it has slots
		t.Errorf("P18.4: %d blocks aren't there yet", beyond)
	}
}

// P18.4: written out, at each Mark, with the errors of one that doesn't grow.
func TestMovesWrittenOut(t *testing.T) {
	for mark, want := range []string{"[0 1 2]", "[3 4 5]", "[6 7 8]", "[9 10 11]"} {
		l := Layout{Data: 2, Slots: 4, Mark: mark, Growing: true}
		if blocks, e := l.Moves(); fmt.Sprint(blocks) != want || e != api.OK {
			t.Errorf("P18.4: %+v: Moves: %v, error %d, want %s", l, blocks, e, want)
		}
	}
	l := Layout{Data: 7, Slots: 16, Mark: 15, Growing: true}
	if blocks, e := l.Moves(); fmt.Sprint(blocks) != "[120 121 122 123 124 125 126 127]" || e != api.OK {
		t.Errorf("P18.4: %+v: Moves: %v, error %d", l, blocks, e)
	}
	for _, l := range []Layout{{Data: 2, Slots: 4}, {Data: 8, Slots: 16}} {
		if blocks, e := l.Moves(); len(blocks) != 0 || e != api.ErrState {
			t.Errorf("P18.4: %+v: Moves: %v, error %d", l, blocks, e)
		}
		if next, e := l.Step(); next != (Layout{}) || e != api.ErrState {
			t.Errorf("P18.4: %+v: Step: %+v, error %d", l, next, e)
		}
	}
}

// Rule 4: what Moves answers is its own, call by call, with all of its memory.
func TestMovesAreNewMemory(t *testing.T) {
	for _, l := range goods() {
		if !l.Growing {
			continue
		}
		first, _ := l.Moves()
		second, _ := l.Moves()
		clear(first[:cap(first)])
		third, _ := l.Moves()
		if !slices.Equal(second, moves(l)) || !slices.Equal(third, moves(l)) {
			t.Errorf("rule 4: %+v: the answers share memory: %v, %v", l, second, third)
		}
	}
}

// P18.4: Step of every good layout: an error where nothing grows; else Mark one greater, or the wider volume.
func TestStep(t *testing.T) {
	for _, l := range goods() {
		was := l
		next, e := l.Step()
		if l != was {
			t.Fatalf("rule 3: %+v has changed to %+v", was, l)
		}
		want, wantE := Layout{}, api.ErrState
		if l.Growing {
			want, wantE = Layout{Data: l.Data, Slots: l.Slots, Mark: l.Mark + 1, Growing: true}, api.OK
			if l.Mark == l.Slots-1 {
				want = Layout{Data: l.Data + 1, Slots: l.Slots}
			}
		}
		if next != want || e != wantE {
			t.Errorf("P18.4: %+v: Step: %+v, error %d, want %+v, error %d", l, next, e, want, wantE)
		}
		if e == api.OK && !next.Good() {
			t.Errorf("P18.4: %+v: Step leads to %+v, which isn't good", l, next)
		}
	}
}

// P18.4: from Mark 0 on, step by step, up to the layout with Data one greater, from the least width to the greatest; the Moves of all steps are all blocks of the wider volume, in order.
func TestStepsUpToTheWidest(t *testing.T) {
	for _, slots := range sizes {
		l := Layout{Data: fewest, Slots: slots}
		for data := fewest; data < most; data++ {
			l.Growing = true
			var moved []int
			for step := range slots {
				if want := (Layout{Data: data, Slots: slots, Mark: step, Growing: true}); l != want {
					t.Fatalf("P18.4: ahead of step %d: %+v, want %+v", step, l, want)
				}
				blocks, e := l.Moves()
				if e != api.OK {
					t.Fatalf("P18.4: %+v: Moves: error %d", l, e)
				}
				moved = append(moved, blocks...)
				l, e = l.Step()
				if e != api.OK {
					t.Fatalf("P18.4: behind step %d of width %d: error %d", step, data, e)
				}
			}
			if want := (Layout{Data: data + 1, Slots: slots}); l != want {
				t.Fatalf("P18.4: behind all steps: %+v, want %+v", l, want)
			}
			for i, block := range moved {
				if i != block {
					t.Fatalf("P18.4: the steps moved %v", moved)
				}
			}
			if len(moved) != l.Blocks() {
				t.Fatalf("P18.4: the steps moved %d blocks, and there are %d", len(moved), l.Blocks())
			}
		}
	}
}

// shelf is what a volume keeps for a test: what lies on each seat of each stripe, a block's number or none.
type shelf map[[2]int]int

const none = -1

// lay puts blocks into a stripe, one behind the other, by a layout's Seat; one that isn't there yet is none.
func (s shelf) lay(t *testing.T, l Layout, stripe int, blocks []int) {
	t.Helper()
	for chunk := range l.Wide(stripe) + parities {
		seat, e := l.Seat(stripe, chunk)
		if e != api.OK {
			t.Fatalf("P18.3: %+v: Seat(%d, %d): error %d", l, stripe, chunk, e)
		}
		s[[2]int{stripe, seat}] = none
		if chunk < len(blocks) {
			s[[2]int{stripe, seat}] = blocks[chunk]
		}
	}
}

// read tells what a layout finds where a block lies.
func (s shelf) read(t *testing.T, l Layout, block int) int {
	t.Helper()
	stripe, chunk, e := l.Find(block)
	if e != api.OK {
		t.Fatalf("P18.2: %+v: Find(%d): error %d", l, block, e)
	}
	seat, e := l.Seat(stripe, chunk)
	if e != api.OK {
		t.Fatalf("P18.3: %+v: Seat(%d, %d): error %d", l, stripe, chunk, e)
	}
	return s[[2]int{stripe, seat}]
}

// The whole of the layer: a volume is laid out, and grows by steps up to the widest, each of which reads the blocks of Moves as they lie, and lays them into the stripe Mark; behind each every block is found with what it had.
func TestGrowthLosesNothing(t *testing.T) {
	for _, slots := range sizes {
		l := Layout{Data: fewest, Slots: slots}
		s := shelf{}
		for stripe := range slots {
			s.lay(t, l, stripe, []int{stripe * 2, stripe*2 + 1})
		}
		known := l.Blocks() // those behind were added by a growth, and have nothing
		for data := fewest; data < most; data++ {
			l.Growing = true
			for range slots {
				blocks, _ := l.Moves()
				for i, block := range blocks {
					blocks[i] = none
					if block < l.Blocks() {
						blocks[i] = s.read(t, l, block)
					}
				}
				next, e := l.Step()
				if e != api.OK {
					t.Fatalf("P18.4: %+v: Step: error %d", l, e)
				}
				s.lay(t, next, l.Mark, blocks)
				l = next
				holdFound(t, s, l, known)
			}
		}
		if l != (Layout{Data: most, Slots: slots}) {
			t.Errorf("P18.4: grown to %+v", l)
		}
	}
}

// holdFound: is each block found with what it had?
func holdFound(t *testing.T, s shelf, l Layout, known int) {
	t.Helper()
	for block := range l.Blocks() {
		want := block
		if block >= known {
			want = none
		}
		if got := s.read(t, l, block); got != want {
			t.Fatalf("P18.2: %+v: where block %d lies, %d is found", l, block, got)
		}
	}
}
