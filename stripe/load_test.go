package stripe

import (
	"slices"
	"strconv"
	"testing"

	"cofferdam/api"
	"cofferdam/bank"
	"cofferdam/slab"
)

// P19.2 to P19.4: of each number of data chunks, each number of slots, and each stripe: all of it can be had.
func TestAllThere(t *testing.T) {
	for data := least; data <= most; data++ {
		for _, slots := range sizes {
			for _, k := range []*stack{together(t, data, slots), apart(t, data, slots)} {
				for stripe, chunks := range k.stripes {
					holdAll(t, "all there", k.shelves, stripe, chunks)
				}
			}
		}
	}
}

// P19.2 to P19.4: of slabs without chunks all stripes are noughts.
func TestBlank(t *testing.T) {
	for data := least; data <= most; data++ {
		b := bank.New(data+more, diskCells)
		var l []Shelf
		for i := range data + more {
			s := slab.Slab{Bank: b, Disk: i, Slots: 4, Key: key}
			writes, top, e := s.Blank()
			if e != api.OK || s.Apply(writes) != api.OK {
				t.Fatalf("layer 17: Blank: error %d", e)
			}
			l = append(l, Shelf{s, top, true})
		}
		for stripe := range 4 {
			holdAll(t, "blank", l, stripe, slices.Repeat([]string{noughts}, data+more))
		}
		b.Disk(0).Fail()
		b.Disk(data + 1).Fail()
		holdAll(t, "blank, two dead", l, 3, slices.Repeat([]string{noughts}, data+more), 0, data+1)
	}
}

// rowOf tells so many shelves, those of a stack again and again, none of them lost.
func rowOf(k *stack, n int) []Shelf {
	return slices.Repeat(k.shelves, n/len(k.shelves)+1)[:n]
}

// P19.2 to P19.4: numbers of shelves that no stripe has are ErrArg, and false, whatever is on them, and whatever stripe and chunk is asked for.
func TestShelfCounts(t *testing.T) {
	counts := []int{0, 1, 2, 3, 11, 12, 13, 16, 20, 256, 256 + 4, 256 + 10}
	states := map[string]func(l []Shelf){
		"all there": func(l []Shelf) {},
		"none is for use": func(l []Shelf) {
			for i := range l {
				l[i].Use = false
			}
		},
		"empty shelves": func(l []Shelf) { clear(l) },
		"dark": func(l []Shelf) {
			for _, s := range l {
				s.Slab.Bank.Cut(0)
			}
		},
	}
	for what, do := range states {
		k := together(t, most, 4)
		for _, n := range counts {
			l := rowOf(k, n)
			do(l)
			what := strconv.Itoa(n) + " shelves, " + what
			for _, stripe := range []int{0, 3, -1, 4} {
				holdNone(t, what, l, stripe, api.ErrArg, 0, 1, n-1, n, -1)
			}
		}
	}
	k := together(t, least, 2)
	for _, l := range [][]Shelf{nil, {}, k.shelves[:0], rowOf(k, 1<<16+4)} {
		holdNone(t, "no shelves, or many", l, 0, api.ErrArg, 0, 1, -1)
	}
}

// P19.2 to P19.4: three shelves on which there is a stripe of one data chunk, which layer 4 would take for one: this layer has no such stripes.
func TestOneDataChunk(t *testing.T) {
	k := together(t, least, 2)
	one := k.stripes[0][0]
	k.putAll(0, []string{one, one, one, one})
	if s := stripeOf([]string{one}); !slices.Equal(s, []string{one, one, one}) {
		t.Fatalf("the measure is wrong: %s", brief(s))
	}
	holdNone(t, "a stripe of one data chunk", k.shelves[:3], 0, api.ErrArg, upTo(3)...)
	l := slices.Clone(k.shelves[:3])
	l[2].Use = false
	holdNone(t, "a stripe of one data chunk, and one lost", l, 0, api.ErrArg, upTo(3)...)
}

// P19.2 to P19.4: each number of shelves that a stripe has is right, whatever they were laid for: those of a wider stripe without the last ones are a narrower one's, of which the data chunks ahead are what they are.
func TestFewerShelves(t *testing.T) {
	for data := least + 1; data <= most; data++ {
		k := together(t, data, 2)
		for narrow := least; narrow < data; narrow++ {
			l := k.shelves[:narrow+more]
			want := stripeOf(k.stripes[1][:narrow])
			quiet(t, "fewer shelves", l, func() {
				holdLoad(t, "P19.2: fewer shelves", l, 1, want, nil, api.OK)
				holdWhole(t, "P19.4: fewer shelves", l, 1, false)
				for i := range l {
					holdOne(t, "P19.3: fewer shelves", l, 1, i, k.stripes[1][i], api.OK)
				}
				holdOne(t, "P19.3: fewer shelves", l, 1, len(l), "", api.ErrArg)
			})
		}
		holdNone(t, "three shelves", k.shelves[:3], 1, api.ErrArg, upTo(3)...)
	}
}

// P19.2 to P19.4: stripes that the slabs have no slot of: no chunk can be had.
func TestStripes(t *testing.T) {
	for _, data := range []int{least, 5, most} {
		for _, slots := range sizes {
			k := together(t, data, slots)
			hold := func(what string) {
				t.Helper()
				for _, stripe := range append([]int{slots, slots + 1, 2 * slots, 17, 20, 99}, ints...) {
					holdNone(t, what, k.shelves, stripe, api.ErrLost, upTo(data+more)...)
				}
			}
			hold("no such stripe")
			holdAll(t, "the first stripe", k.shelves, 0, k.stripes[0])
			holdAll(t, "the last stripe", k.shelves, slots-1, k.stripes[slots-1])
			k.shelves[0].Slab.Bank.Cut(0)
			hold("no such stripe, and dark") // layer 17 looks at the slot ahead of reading
			holdNone(t, "the last stripe, and dark", k.shelves, slots-1, api.ErrPower, upTo(data+more)...)
		}
	}
}

// P19.2 to P19.4: slabs of unlike numbers of slots: a stripe of which some have a slot.
func TestUnlikeSlots(t *testing.T) {
	for _, data := range []int{least, 3, most} {
		for count := range 4 {
			each(data+more, count, func(l ...int) {
				if data == most && slices.Contains(l, 2) {
					return // enough of them
				}
				k := together(t, data, 4)
				for _, i := range l { // two slots: there is no stripe 3
					s := k.shelves[i].Slab
					s.Slots = 2
					writes, top, e := s.Blank()
					if e != api.OK || s.Apply(writes) != api.OK {
						t.Fatalf("layer 17: Blank: error %d", e)
					}
					k.shelves[i].Slab, k.shelves[i].Top = s, top
				}
				holdAll(t, "unlike slots", k.shelves, 3, k.stripes[3], l...)
				for _, i := range l {
					k.put(i, 1, k.stripes[1][i])
				}
				holdAll(t, "unlike slots, a stripe that all have", k.shelves, 1, k.stripes[1])
			})
		}
	}
}

// P19.2 to P19.4: each set of chunks that can't be had, from none to all of them.
func TestLostSets(t *testing.T) {
	for data := least; data <= most; data++ {
		k := together(t, data, 4)
		for count := range data + more + 1 {
			each(data+more, count, func(l ...int) {
				shelves := slices.Clone(k.shelves)
				for _, i := range l {
					shelves[i].Use = false
				}
				holdAll(t, "some aren't for use", shelves, len(l)%4, k.stripes[len(l)%4], l...)
			})
		}
	}
}

// P19.2 to P19.4: no chunk, each one, each pair and each three of them lost, of each kind.
func TestLostKinds(t *testing.T) {
	for n, what := range losses() {
		widths := []int{least, 3, most}
		if n >= 4 {
			widths = widths[:2] // enough of them
		}
		for _, data := range widths {
			for count := range 4 {
				each(data+more, count, func(l ...int) {
					if data == most && count == 3 && (l[0]+l[1]+l[2])%4 != n {
						return
					}
					k := together(t, data, 2)
					k.lose(1, what, l...)
					holdAll(t, what.what, k.shelves, 1, k.stripes[1], l...)
				})
			}
		}
	}
}

// P19.2 to P19.4: chunks lost of unlike kinds count together.
func TestMixedKinds(t *testing.T) {
	kinds := losses()
	for a := range kinds {
		for b := range kinds {
			data := least + (a+b)%(most-least+1)
			k := together(t, data, 2)
			i, j := a%(data+more), (a+b+1)%(data+more)
			if i == j {
				continue
			}
			k.lose(0, kinds[a], i)
			k.lose(0, kinds[b], j)
			lost := []int{min(i, j), max(i, j)}
			holdAll(t, kinds[a].what+", and "+kinds[b].what, k.shelves, 0, k.stripes[0], lost...)
			third := 0
			for slices.Contains(lost, third) {
				third++
			}
			k.lose(0, kinds[(a*b+5)%len(kinds)], third)
			lost = append(lost, third)
			slices.Sort(lost)
			holdAll(t, kinds[a].what+", "+kinds[b].what+", and a third one", k.shelves, 0, k.stripes[0], lost...)
		}
	}
}

// P19.2 to P19.4: a chunk that is lost in one stripe is there in the others.
func TestOtherStripes(t *testing.T) {
	for data := least; data <= most; data++ {
		k := together(t, data, 8)
		for stripe := range 8 {
			k.lose(stripe, changed(), stripe%(data+more))
		}
		k.lose(3, changed(), (3+1)%(data+more))
		for stripe := range 8 {
			lost := []int{stripe % (data + more)}
			if stripe == 3 {
				lost = append(lost, (3+1)%(data+more))
				slices.Sort(lost)
			}
			holdAll(t, "a chunk of each stripe", k.shelves, stripe, k.stripes[stripe], lost...)
		}
	}
}

// holdDark holds what is told while some shelves have no power and some others' chunks are lost: those that are had themselves, and ErrPower of all else.
func holdDark(t *testing.T, what string, l []Shelf, stripe int, chunks []string, gone ...int) {
	t.Helper()
	holdNone(t, what, l, stripe, api.ErrPower, gone...)
	for i, c := range chunks {
		if !slices.Contains(gone, i) {
			holdOne(t, "P19.3: "+what, l, stripe, i, c, api.OK)
		}
	}
}

// P19.2 to P19.4: power that goes at each chunk in turn, with none of the others lost, and with some: ErrPower, ahead of ErrLost, wherever the others stand.
func TestDark(t *testing.T) {
	for _, data := range []int{least, 4, most} {
		n := data + more
		for dark := range n {
			for _, lost := range [][]int{{}, {0}, {n - 1}, {0, 1}, {n - 2, n - 1}, {0, 1, 2}, {n - 3, n - 2, n - 1}, {0, n / 2, n - 1}, upTo(n)} {
				lost = slices.DeleteFunc(slices.Clone(lost), func(i int) bool { return i == dark })
				for _, what := range []loss{unused(), dead(), changed(), otherKey(), noBank()} {
					k := apart(t, data, 2)
					k.lose(1, what, lost...)
					k.shelves[dark].Slab.Bank.Cut(0)
					holdDark(t, "dark at "+strconv.Itoa(dark)+", others: "+what.what, k.shelves, 1, k.stripes[1], append(lost, dark)...)
					k.shelves[dark].Slab.Bank.Crash()
					holdAll(t, "power again, others: "+what.what, k.shelves, 1, k.stripes[1], lost...)
				}
			}
		}
	}
}

// P19.2 to P19.4: one power for all, and none of it: ErrPower; with a step left all is there, as no step is needed.
func TestAllDark(t *testing.T) {
	for data := least; data <= most; data++ {
		k := together(t, data, 4)
		k.shelves[0].Slab.Bank.Cut(1)
		holdAll(t, "a step is left", k.shelves, 2, k.stripes[2])
		k.shelves[0].Slab.Bank.Cut(0)
		holdNone(t, "dark", k.shelves, 2, api.ErrPower, upTo(data+more)...)
		for chunk := range data + more { // one that isn't for use, beside others that are
			l := slices.Clone(k.shelves)
			l[chunk].Use = false
			holdNone(t, "dark, and one isn't for use", l, 2, api.ErrPower, upTo(data+more)...)
		}
		for _, chunk := range append([]int{data + more, data + more + 1, 99}, ints...) {
			holdOne(t, "P19.3: dark, and no such chunk", k.shelves, 2, chunk, "", api.ErrArg)
		}
		for i := range k.shelves {
			k.shelves[i].Slab.Bank.Disk(i).Fail()
		}
		holdNone(t, "dark, and all are dead", k.shelves, 2, api.ErrPower, upTo(data+more)...)
		k.shelves[0].Slab.Bank.Crash()
		holdNone(t, "all are dead", k.shelves, 2, api.ErrLost, upTo(data+more)...)
	}
}

// P19.2 to P19.4: power that fails, of a shelf which layer 17 answers something else of, or that isn't for use and so isn't asked: the chunk is lost as others are.
func TestDarkNotMet(t *testing.T) {
	for _, data := range []int{least, 4, most} {
		each(data+more, 2, func(l ...int) {
			k := apart(t, data, 2)
			for _, i := range l {
				k.shelves[i].Slab.Bank.Cut(0)
			}
			k.lose(1, halfKey(), l[0]) // half a key: not good, ahead of power
			k.shelves[l[1]].Use = false
			holdAll(t, "dark, and not asked", k.shelves, 1, k.stripes[1], l...)
			third := 0
			for slices.Contains(l, third) {
				third++
			}
			k.lose(1, changed(), third)
			lost := append(slices.Clone(l), third)
			slices.Sort(lost)
			holdAll(t, "dark, and not asked, and a third one", k.shelves, 1, k.stripes[1], lost...)
		})
	}
	k := apart(t, most, 2)
	for i := range k.shelves {
		k.shelves[i].Slab.Bank.Cut(0)
		k.shelves[i].Use = false
	}
	holdNone(t, "dark, and none is for use", k.shelves, 1, api.ErrLost, upTo(most+more)...)
}

// P19.2: what waits on a disk is read as what lasts.
func TestWaiting(t *testing.T) {
	k := together(t, 3, 2)
	k.stripes[1] = stripeOf(someTexts(3, blockBytes, 9))
	for i, c := range k.stripes[1] {
		s := k.shelves[i].Slab
		writes, top, _ := s.Prepare(k.shelves[i].Top, []slab.Change{{Slot: 1, Cell: k.sealed(i, 1, c)}})
		for _, w := range writes {
			s.Bank.Write(i, w.At, w.Cell)
		}
		k.shelves[i].Top = top
	}
	holdAll(t, "all waits", k.shelves, 1, k.stripes[1])
	k.shelves[0].Slab.Bank.Crash()
	holdNone(t, "all is lost", k.shelves, 1, api.ErrLost, upTo(5)...)
}
