package stripe

import (
	"slices"
	"strconv"
	"testing"

	"cofferdam/api"
)

// P19.3: chunks that there aren't, whatever the stripe and the shelves are.
func TestOneChunks(t *testing.T) {
	for data := least; data <= most; data++ {
		k := together(t, data, 2)
		n := data + more
		hold := func(what string) {
			t.Helper()
			for _, chunk := range append([]int{n, n + 1, 2 * n, 16, 99, 256, 256 + n - 1, 1<<16 + n - 1}, ints...) {
				for _, stripe := range []int{0, 1, 2, -1} {
					holdOne(t, "P19.3: no such chunk, "+what, k.shelves, stripe, chunk, "", api.ErrArg)
				}
			}
		}
		hold("all there")
		holdOne(t, "P19.3: the first", k.shelves, 1, 0, k.stripes[1][0], api.OK)
		holdOne(t, "P19.3: the last", k.shelves, 1, n-1, k.stripes[1][n-1], api.OK)
		k.lose(1, dead(), 0, 1)
		hold("two are dead")
		holdOne(t, "P19.3: the first", k.shelves, 1, 0, k.stripes[1][0], api.OK)
		holdOne(t, "P19.3: the last", k.shelves, 1, n-1, k.stripes[1][n-1], api.OK)
		k.lose(1, dead(), upTo(n)...)
		hold("all are dead")
	}
}

// P19.3: a chunk that can be had itself is told, whatever became of all others.
func TestOneAlone(t *testing.T) {
	for data := least; data <= most; data++ {
		n := data + more
		for chunk := range n {
			others := slices.DeleteFunc(upTo(n), func(i int) bool { return i == chunk })
			for _, what := range losses() {
				k := apart(t, data, 2)
				k.lose(1, what, others...)
				holdAll(t, "one alone, others: "+what.what, k.shelves, 1, k.stripes[1], others...)
			}
			k := apart(t, data, 2)
			for _, i := range others {
				k.shelves[i].Slab.Bank.Cut(0)
			}
			holdDark(t, "one alone has power", k.shelves, 1, k.stripes[1], others...)
		}
	}
}

// another tells the stack's chunk with one byte another, so that it fits the others no more.
func (k *stack) another(i, stripe int) {
	k.t.Helper()
	k.stripes[stripe][i] = turned(k.stripes[stripe][i], (3*i+stripe)%blockBytes)
	k.put(i, stripe, k.stripes[stripe][i])
}

// made tells a stripe of which the first so many data chunks as there are stand as they are, when none is missing.
func made(chunks []string) []string {
	return stripeOf(chunks[:len(chunks)-more])
}

// P19.2 to P19.4: chunks each of which can be had, and one of which doesn't fit the others: Whole is false; One tells each as it is; Load what layer 4 makes of the first ones.
func TestUnfit(t *testing.T) {
	for data := least; data <= most; data++ {
		for i := range data + more {
			k := together(t, data, 2)
			k.another(i, 1)
			chunks := k.stripes[1]
			quiet(t, "unfit", k.shelves, func() {
				holdWhole(t, "P19.4: unfit", k.shelves, 1, false)
				holdLoad(t, "P19.2: unfit", k.shelves, 1, made(chunks), nil, api.OK)
				for j, c := range chunks {
					holdOne(t, "P19.3: unfit", k.shelves, 1, j, c, api.OK)
				}
			})
			holdAll(t, "another stripe", k.shelves, 0, k.stripes[0])
		}
	}
}

// P19.2, P19.3: parity that doesn't fit, and data chunks that are lost: these are told by the first chunks that are there.
func TestUnfitAndLost(t *testing.T) {
	for data := least; data <= most; data++ {
		p, q := data, data+1
		for i := range data {
			k := together(t, data, 2)
			right := slices.Clone(k.stripes[1])
			k.lose(1, changed(), i)
			k.another(q, 1)
			holdLoad(t, "P19.2: Q is another, data by P", k.shelves, 1, right, []int{i}, api.OK)
			holdOne(t, "P19.3: Q is another, data by P", k.shelves, 1, i, right[i], api.OK)
			holdOne(t, "P19.3: Q is another", k.shelves, 1, q, k.stripes[1][q], api.OK)
			holdWhole(t, "P19.4: Q is another, and one is lost", k.shelves, 1, false)
			k.another(p, 1)
			wrong := slices.Clone(right)
			wrong[i] = turned(wrong[i], (3*p+1)%blockBytes) // P is the sum of all
			holdLoad(t, "P19.2: P is another, data by it", k.shelves, 1, stripeOf(wrong[:data]), []int{i}, api.OK)
			holdOne(t, "P19.3: P is another, data by it", k.shelves, 1, i, wrong[i], api.OK)
			holdOne(t, "P19.3: P is another", k.shelves, 1, p, k.stripes[1][p], api.OK)
		}
	}
}

// P19.4: two chunks that don't fit, together: P and a data chunk that cancel one another in the sum alone, all with one another's places, and the parity chunks turned about.
func TestUnfitTogether(t *testing.T) {
	for data := least; data <= most; data++ {
		k := together(t, data, 4)
		s := k.stripes[1]
		k.put(0, 1, turned(s[0], 7))
		k.put(data, 1, turned(s[data], 7))
		holdWhole(t, "P19.4: P fits, Q doesn't", k.shelves, 1, false)
		k.put(data+1, 1, turned(s[data+1], 7))
		holdWhole(t, "P19.4: all fit again", k.shelves, 1, true)
		s = k.stripes[2]
		k.put(data, 2, s[data+1])
		k.put(data+1, 2, s[data])
		holdWhole(t, "P19.4: P and Q turned about", k.shelves, 2, false)
		s = k.stripes[3]
		k.put(0, 3, s[1])
		k.put(1, 3, s[0])
		holdWhole(t, "P19.4: two data chunks turned about", k.shelves, 3, false)
		holdAll(t, "another stripe", k.shelves, 0, k.stripes[0])
	}
}

// P19.2 to P19.4: chunks of one length that isn't Block, which layer 17 tells: all goes by what they are.
func TestOtherLengths(t *testing.T) {
	for _, data := range []int{least, 3, most} {
		for _, length := range []int{0, 1, 31, 33, 100, 2004} {
			k := together(t, data, 2)
			chunks := stripeOf(someTexts(data, length, length))
			k.putAll(1, chunks)
			holdAll(t, "chunks of "+strconv.Itoa(length), k.shelves, 1, chunks)
			k.lose(1, unused(), 1, data)
			holdAll(t, "chunks of "+strconv.Itoa(length)+", two lost", k.shelves, 1, chunks, 1, data)
			k.lose(1, dead(), data+1)
			holdAll(t, "chunks of "+strconv.Itoa(length)+", three lost", k.shelves, 1, chunks, 1, data, data+1)
		}
	}
}

// P19.2 to P19.4: chunks of unlike lengths: layer 4's ErrShape, behind ErrPower and ErrLost; each that is there is told by One.
func TestUnlikeLengths(t *testing.T) {
	for _, data := range []int{least, 4, most} {
		n := data + more
		for odd := range n {
			for _, length := range []int{0, 31, 33} {
				k := apart(t, data, 2)
				chunks := slices.Clone(k.stripes[1])
				chunks[odd] = someText(length, length)
				k.put(odd, 1, chunks[odd])
				hold := func(what string, e api.Errno, lost ...int) {
					t.Helper()
					holdNone(t, what, k.shelves, 1, e, lost...)
					for i, c := range chunks {
						if !slices.Contains(lost, i) {
							holdOne(t, "P19.3: "+what, k.shelves, 1, i, c, api.OK)
						}
					}
				}
				hold("one of another length", api.ErrShape)
				a, b, c := (odd+1)%n, (odd+2)%n, (odd+3)%n
				k.lose(1, unused(), a)
				hold("one of another length, one lost", api.ErrShape, a)
				k.lose(1, changed(), b)
				hold("one of another length, two lost", api.ErrShape, a, b)
				k.lose(1, otherKey(), c)
				hold("one of another length, three lost", api.ErrLost, a, b, c)
				k.shelves[c].Slab.Key = key
				k.shelves[c].Slab.Bank.Cut(0)
				hold("one of another length, two lost, dark", api.ErrPower, a, b, c)
				k.shelves[c].Slab.Bank.Crash()
				k.shelves[a].Use = true
				k.lose(1, unused(), odd)
				lost := []int{min(b, odd), max(b, odd)}
				holdAll(t, "the one of another length is lost", k.shelves, 1, k.stripes[1], lost...)
			}
		}
	}
}

// Rule 4: what Load told isn't changed by what becomes of the shelves, the disks, or another answer.
func TestLoadKeepsNothing(t *testing.T) {
	for data := least; data <= most; data++ {
		k := together(t, data, 2)
		k.lose(1, unused(), 0, data)
		first, lost, _ := Load(k.shelves, 1)
		second, more, _ := Load(k.shelves, 1)
		for i := range k.shelves {
			k.shelves[i].Slab.Bank.Disk(i).Restore(nil)
		}
		spoil(k.shelves)
		if !slices.Equal(first, k.stripes[1]) || !slices.Equal(lost, []int{0, data}) {
			t.Fatalf("rule 4: the answer has changed: %x, %v", first, lost)
		}
		spoil(first)
		spoil(lost)
		if !slices.Equal(second, k.stripes[1]) || !slices.Equal(more, []int{0, data}) {
			t.Fatalf("rule 4: two answers have one memory: %x, %v", second, more)
		}
	}
}

// Rule 7: a call goes by the shelves as they are at the call, not as an earlier one found them.
func TestNothingKept(t *testing.T) {
	k := together(t, 3, 2)
	holdAll(t, "first", k.shelves, 1, k.stripes[1])
	image := k.shelves[2].Slab.Bank.Disk(2).Image()
	k.lose(1, changed(), 2)
	holdAll(t, "then lost", k.shelves, 1, k.stripes[1], 2)
	k.shelves[2].Slab.Bank.Disk(2).Restore(image)
	holdAll(t, "put right", k.shelves, 1, k.stripes[1])
	k.stripes[1] = stripeOf(someTexts(3, blockBytes, 77))
	k.putAll(1, k.stripes[1])
	holdAll(t, "another stripe in its place", k.shelves, 1, k.stripes[1])
	k.shelves[0].Slab.Bank.Cut(0)
	holdNone(t, "dark", k.shelves, 1, api.ErrPower, upTo(5)...)
	k.shelves[0].Slab.Bank.Crash()
	holdAll(t, "power again", k.shelves, 1, k.stripes[1])
}

// P2: two stacks that were made apart have nothing to do with one another.
func TestApart(t *testing.T) {
	a, b := together(t, 3, 2), together(t, 3, 2)
	b.stripes[1] = stripeOf(someTexts(3, blockBytes, 78))
	b.putAll(1, b.stripes[1])
	holdAll(t, "P2", a.shelves, 1, a.stripes[1])
	a.lose(1, dead(), 0, 1, 2)
	a.shelves[0].Slab.Bank.Cut(0)
	holdAll(t, "P2", b.shelves, 1, b.stripes[1])
	l := slices.Concat(b.shelves[:2], a.shelves[2:]) // shelves of both: what is told of one has power, of the other not
	holdDark(t, "P2: shelves of both", l, 1, b.stripes[1], 2, 3, 4)
}
