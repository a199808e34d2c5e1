package tree

import (
	"crypto/sha256"
	"encoding/hex"
	"go/ast"
	"go/parser"
	"go/token"
	"iter"
	"math"
	"slices"
	"strconv"
	"strings"
	"testing"

	"cofferdam/api"
)

// The document's lengths.
const (
	digestBytes = 32
	bothBytes   = 64
)

// sizes are the numbers of leaves that trees have, the place of each being one less than the number of pairs over a leaf.
var sizes = []int{2, 4, 8, 16}

// ints are edges of ints, and such as become a tree's number or slot where they are cut to fewer bits.
var ints = []int{math.MinInt, math.MinInt + 1, math.MinInt32, -1 << 32, -256, -17, -16, -8, -4, -2, -1, 1<<8 + 4, 1<<16 + 8, 1 << 31, 1 << 32, 1<<32 + 2, 1 << 62, math.MaxInt - 1, math.MaxInt}

// nodeOf is the document's digest of a pair, by the library.
func nodeOf(pair string) string {
	d := sha256.Sum256([]byte("\x01" + pair))
	return string(d[:])
}

// some tells a digest, another one for each name.
func some(name string) string {
	d := sha256.Sum256([]byte(name))
	return string(d[:])
}

// row tells n digests, others for each name.
func row(name string, n int) []string {
	l := make([]string, n)
	for i := range l {
		l[i] = some(name + strconv.Itoa(i))
	}
	return l
}

// digestAt is the document's digest of a node, the words on trees taken one by one.
func digestAt(leaves []string, node int) string {
	if node >= len(leaves) {
		return leaves[node-len(leaves)]
	}
	return nodeOf(pairAt(leaves, node))
}

func pairAt(leaves []string, node int) string {
	return digestAt(leaves, 2*node) + digestAt(leaves, 2*node+1)
}

// wayUp tells the inner nodes over a leaf, gone through from the leaf up and told from the top down.
func wayUp(n, slot int) []int {
	var l []int
	for node := (n + slot) / 2; node >= 1; node /= 2 {
		l = slices.Insert(l, 0, node)
	}
	return l
}

// pairsOver tells the pairs over a leaf.
func pairsOver(leaves []string, slot int) []string {
	var l []string
	for _, node := range wayUp(len(leaves), slot) {
		l = append(l, pairAt(leaves, node))
	}
	return l
}

// turned tells the text with another byte at a place.
func turned(s string, at int, by byte) string {
	b := []byte(s)
	b[at] ^= by
	return string(b)
}

// with tells the list with another text at a place.
func with(l []string, at int, s string) []string {
	l = slices.Clone(l)
	l[at] = s
	return l
}

// guarded tells the list with more behind its length, and what holds that all of it is as it was.
func guarded(t *testing.T, what string, l []string) ([]string, func()) {
	t.Helper()
	whole := append(slices.Clone(l), strings.Repeat("b", digestBytes), strings.Repeat("b", bothBytes), "b")
	was := slices.Clone(whole)
	return whole[:len(l)], func() {
		t.Helper()
		if !slices.Equal(whole, was) {
			t.Fatalf("rule 4: %s: what was handed in has changed", what)
		}
	}
}

// spoil writes over all of a list's memory: what shares it shows so.
func spoil[T any](l []T) {
	clear(l[:cap(l)])
}

// The hold functions make a call twice, over what the first answered being written, as each answer is its own; and hold that what was handed in is as it was.

func holdPath(t *testing.T, what string, n, slot int, want []int, e api.Errno) {
	t.Helper()
	for range 2 {
		l, f := Path(n, slot)
		if !slices.Equal(l, want) || f != e {
			t.Fatalf("%s: Path(%d, %d): %v, error %d; want %v, error %d", what, n, slot, l, f, want, e)
		}
		spoil(l)
	}
}

func holdBuild(t *testing.T, what string, leaves, want []string, wantTop string, e api.Errno) {
	t.Helper()
	in, hold := guarded(t, what, leaves)
	for range 2 {
		l, top, f := Build(in)
		if !slices.Equal(l, want) || top != wantTop || f != e {
			t.Fatalf("%s: Build of %d: %x, %x, error %d; want %x, %x, error %d", what, len(leaves), l, top, f, want, wantTop, e)
		}
		spoil(l)
		hold()
	}
}

func holdFollow(t *testing.T, what, top string, slot int, pairs []string, want string, e api.Errno) {
	t.Helper()
	in, hold := guarded(t, what, pairs)
	for range 2 {
		s, f := Follow(top, slot, in)
		if s != want || f != e {
			t.Fatalf("%s: Follow of slot %d, %d pairs: %x, error %d; want %x, error %d", what, slot, len(pairs), s, f, want, e)
		}
		hold()
	}
}

func holdPut(t *testing.T, what string, slot int, pairs []string, digest string, want []string, wantTop string, e api.Errno) {
	t.Helper()
	in, hold := guarded(t, what, pairs)
	for range 2 {
		l, top, f := Put(slot, in, digest)
		if !slices.Equal(l, want) || top != wantTop || f != e {
			t.Fatalf("%s: Put of slot %d, %d pairs: %x, %x, error %d; want %x, %x, error %d", what, slot, len(pairs), l, top, f, want, wantTop, e)
		}
		spoil(l)
		hold()
	}
}

// holdNoClash holds that Clash tells none, either way round.
func holdNoClash(t *testing.T, what string, slot int, a, b []string) {
	t.Helper()
	holdClash(t, what, Clash, slot, a, b, "", "", false)
}

// holdClash holds what is told of both, either way round.
func holdClash(t *testing.T, what string, tell func(int, []string, []string) (string, string, bool), slot int, a, b []string, x, y string, ok bool) {
	t.Helper()
	p, holdA := guarded(t, what, a)
	q, holdB := guarded(t, what, b)
	if gotX, gotY, got := tell(slot, p, q); gotX != x || gotY != y || got != ok {
		t.Fatalf("%s: slot %d, %d and %d pairs: %x, %x, %t; want %x, %x, %t", what, slot, len(a), len(b), gotX, gotY, got, x, y, ok)
	}
	if gotY, gotX, got := tell(slot, q, p); gotX != x || gotY != y || got != ok {
		t.Fatalf("%s: turned round: slot %d, %d and %d pairs: %x, %x, %t; want %x, %x, %t", what, slot, len(a), len(b), gotX, gotY, got, x, y, ok)
	}
	holdA()
	holdB()
}

// The document's example.
func TestExample(t *testing.T) {
	holdPath(t, "P12.1: the example", 8, 5, []int{1, 3, 6}, api.OK)
}

// P12.1: each leaf of each tree.
func TestPath(t *testing.T) {
	for levels, n := range sizes {
		for slot := range n {
			want := wayUp(n, slot)
			if len(want) != levels+1 || want[0] != 1 || want[levels]/2 != (n+slot)/4 {
				t.Fatalf("the measure is wrong: %v", want)
			}
			holdPath(t, "P12.1: a leaf", n, slot, want, api.OK)
		}
	}
	holdPath(t, "P12.1: by hand", 2, 0, []int{1}, api.OK)
	holdPath(t, "P12.1: by hand", 2, 1, []int{1}, api.OK)
	holdPath(t, "P12.1: by hand", 4, 1, []int{1, 2}, api.OK)
	holdPath(t, "P12.1: by hand", 4, 2, []int{1, 3}, api.OK)
	holdPath(t, "P12.1: by hand", 8, 0, []int{1, 2, 4}, api.OK)
	holdPath(t, "P12.1: by hand", 8, 7, []int{1, 3, 7}, api.OK)
	holdPath(t, "P12.1: by hand", 16, 0, []int{1, 2, 4, 8}, api.OK)
	holdPath(t, "P12.1: by hand", 16, 9, []int{1, 3, 6, 12}, api.OK)
	holdPath(t, "P12.1: by hand", 16, 15, []int{1, 3, 7, 15}, api.OK)
}

// P12.1: ErrArg of each slot that a tree hasn't.
func TestPathNoSlot(t *testing.T) {
	for _, n := range sizes {
		for _, slot := range append([]int{-1, n, n + 1, 2*n - 1, 2 * n, 16, 17, 32}, ints...) {
			holdPath(t, "P12.1: no such slot", n, slot, nil, api.ErrArg)
		}
	}
}

// P12.1: ErrArg of each number of leaves that no tree has.
func TestPathNoTree(t *testing.T) {
	numbers := slices.Clone(ints)
	for n := -40; n <= 140; n++ {
		numbers = append(numbers, n)
	}
	for k := range 64 {
		numbers = append(numbers, 1<<k, 3<<k, -1<<k)
	}
	for _, n := range numbers {
		if slices.Contains(sizes, n) {
			continue
		}
		for _, slot := range append([]int{0, 1, 2, n - 1, n, n / 2}, ints...) {
			holdPath(t, "P12.1: no such tree", n, slot, nil, api.ErrArg)
		}
	}
}

// holdTree holds Build of leaves against the words on trees, node by node.
func holdTree(t *testing.T, what string, leaves []string) {
	t.Helper()
	want := []string{""} // the place 0, of no node
	for node := 1; node < len(leaves); node++ {
		want = append(want, pairAt(leaves, node))
	}
	holdBuild(t, what, leaves, want, digestAt(leaves, 1), api.OK)
}

// P12.1: ordinary trees.
func TestBuild(t *testing.T) {
	for _, n := range sizes {
		for k := range 10 {
			holdTree(t, "P12.1: a tree", row("tree"+strconv.Itoa(k), n))
		}
		for _, s := range []string{"\x00", "\xff", "a"} {
			holdTree(t, "P12.1: leaves that are the same", slices.Repeat([]string{strings.Repeat(s, digestBytes)}, n))
		}
		l := slices.Repeat([]string{some("all")}, n)
		for slot := range n {
			holdTree(t, "P12.1: one leaf that is another", with(l, slot, some("one")))
		}
		holdTree(t, "P12.1: leaves of runes of two bytes", slices.Repeat([]string{strings.Repeat("ä", 16)}, n))
	}
}

// P12.1: trees whose pairs and tops are written out by hand.
func TestBuildByHand(t *testing.T) {
	a, b, c, d := some("a"), some("b"), some("c"), some("d")
	holdBuild(t, "P12.1: two leaves", []string{a, b}, []string{"", a + b}, nodeOf(a+b), api.OK)
	x, y := nodeOf(a+b), nodeOf(c+d)
	holdBuild(t, "P12.1: four leaves", []string{a, b, c, d}, []string{"", x + y, a + b, c + d}, nodeOf(x+y), api.OK)
	for i, want := range []string{ // by Python's hashlib, of leaves of noughts
		"ae0798d0ecaed2b778eddebf18f071a561c53658c05e76cedecc27cafbdbc577",
		"90534fe0aff6db9edb29eee74e78a386916a581c8e6465349493e1a6c87241e1",
		"bea16162721bca4b6e1782cbdc695a471522157c6716f508db47c599195340f4",
		"30765fef341bdfe749c391bf956a9f03d363941b2eb8f85ab16bb6eb0d3c4def",
	} {
		_, top, _ := Build(slices.Repeat([]string{strings.Repeat("\x00", digestBytes)}, sizes[i]))
		if got := hex.EncodeToString([]byte(top)); got != want {
			t.Errorf("P12.1: the top of %d leaves of noughts is %s, want %s", sizes[i], got, want)
		}
	}
}

// P12.1: ErrArg of each number of digests that no tree has.
func TestBuildNoTree(t *testing.T) {
	holdBuild(t, "P12.1: nil", nil, nil, "", api.ErrArg)
	for n := range 140 {
		if !slices.Contains(sizes, n) {
			holdBuild(t, "P12.1: no such tree", row("none", n), nil, "", api.ErrArg)
		}
	}
	for _, n := range []int{1 << 8, 1<<8 + 4, 1 << 16, 1<<16 + 8} {
		holdBuild(t, "P12.1: no such tree", slices.Repeat([]string{some("x")}, n), nil, "", api.ErrArg)
	}
}

// P12.1: ErrShape of a digest of another length, at each place.
func TestBuildShape(t *testing.T) {
	for _, n := range sizes {
		good := row("shape", n)
		for _, length := range []int{31, 33, 0, 1, 16, 63, 64, 65, 256 + 32, 1<<16 + 32} {
			for slot := range n {
				bad := with(good, slot, strings.Repeat("x", length))
				holdBuild(t, "P12.1: no digest", bad, nil, "", api.ErrShape)
				holdBuild(t, "P12.1: two that are none, as long in all", with(bad, (slot+1)%n, strings.Repeat("x", max(0, 2*digestBytes-length))), nil, "", api.ErrShape)
			}
		}
		for length := range 100 {
			if length != digestBytes {
				holdBuild(t, "P12.1: no digests", slices.Repeat([]string{strings.Repeat("x", length)}, n), nil, "", api.ErrShape)
			}
		}
		holdBuild(t, "P12.1: 32 runes of two bytes", with(good, n-1, strings.Repeat("ä", digestBytes)), nil, "", api.ErrShape)
	}
}

// P12.1: ErrArg ahead of ErrShape where both hold.
func TestBuildOrder(t *testing.T) {
	for _, n := range []int{1, 3, 5, 6, 7, 9, 12, 15, 17, 31, 32, 33} {
		for _, length := range []int{0, 31, 33, 64} {
			bad := strings.Repeat("x", length)
			holdBuild(t, "P12.1: both errors, the first", with(row("order", n), 0, bad), nil, "", api.ErrArg)
			holdBuild(t, "P12.1: both errors, the last", with(row("order", n), n-1, bad), nil, "", api.ErrArg)
			holdBuild(t, "P12.1: both errors, all", slices.Repeat([]string{bad}, n), nil, "", api.ErrArg)
		}
	}
}

// P12.2: every leaf of a tree is followed from its top.
func TestFollow(t *testing.T) {
	for _, n := range sizes {
		for k := range 5 {
			leaves := row("follow"+strconv.Itoa(k), n)
			for slot := range n {
				holdFollow(t, "P12.2: a leaf", digestAt(leaves, 1), slot, pairsOver(leaves, slot), leaves[slot], api.OK)
			}
		}
	}
}

// P12.1, P12.2: what Path, Build and Follow tell fits together.
func TestFollowWhatIsBuilt(t *testing.T) {
	for _, n := range sizes {
		leaves := row("built", n)
		l, top, _ := Build(leaves)
		for slot := range n {
			path, _ := Path(n, slot)
			var pairs []string
			for _, node := range path {
				pairs = append(pairs, l[node])
			}
			holdFollow(t, "P12.2: of what is built", top, slot, pairs, leaves[slot], api.OK)
		}
	}
}

// P12.2: the pairs of another leaf lead to a slot if it has the same, and else nowhere; fewer pairs are those of a lower tree.
func TestFollowOthersPairs(t *testing.T) {
	for _, n := range sizes {
		leaves := row("others", n)
		top := digestAt(leaves, 1)
		for slot := range n {
			for from := range n {
				want, e := "", api.ErrSum
				if from/2 == slot/2 {
					want, e = leaves[slot], api.OK
				}
				holdFollow(t, "P12.2: another leaf's pairs", top, slot, pairsOver(leaves, from), want, e)
			}
			pairs := pairsOver(leaves, slot)
			for k := 1; k < len(pairs); k++ {
				node := (n + slot) >> (len(pairs) - k)
				holdFollow(t, "P12.2: the first pairs", top, node-1<<k, pairs[:k], digestAt(leaves, node), api.OK)
			}
		}
	}
}

// noNumbers are the numbers of pairs that there never are over a leaf.
var noNumbers = []int{0, 5, 6, 8, 16, 31, 32, 33, 61, 62, 63, 64, 65, 66, 128, 257, 258, 1 << 16}

// manyPairs tells so many pairs, each of which has the one behind it on both sides, with the digest of the first.
func manyPairs(n int) ([]string, string) {
	l, now := make([]string, n), some("many")
	for i := n - 1; i >= 0; i-- {
		l[i] = now + now
		now = nodeOf(l[i])
	}
	return l, now
}

// P12.2: ErrArg where there aren't 1 to 4 pairs, though they lead on; also nil.
func TestFollowNumber(t *testing.T) {
	for n := 1; n <= 4; n++ {
		l, top := manyPairs(n)
		holdFollow(t, "P12.2: so many pairs there are", top, 0, l, some("many"), api.OK)
	}
	for _, slot := range append([]int{0, 1, 2, 15, 16, 31}, ints...) {
		holdFollow(t, "P12.2: nil", some("top"), slot, nil, "", api.ErrArg)
		for _, n := range noNumbers {
			l, top := manyPairs(min(n, 258))
			l = append(l, make([]string, n-len(l))...)
			holdFollow(t, "P12.2: so many pairs there aren't", top, slot, l, "", api.ErrArg)
		}
	}
}

// P12.2: ErrArg of slots that there aren't, ahead of ErrSum.
func TestFollowNoSlot(t *testing.T) {
	for k, n := range sizes {
		l, top := manyPairs(k + 1) // leads to each slot
		for _, slot := range append([]int{-1, n, n + 1, 2*n - 1, 2 * n, -n}, ints...) {
			holdFollow(t, "P12.2: no such slot", top, slot, l, "", api.ErrArg)
			holdFollow(t, "P12.2: no such slot, another top", some("top"), slot, l, "", api.ErrArg)
			holdFollow(t, "P12.2: no such slot, no pairs", top, slot, make([]string, k+1), "", api.ErrArg)
		}
		holdFollow(t, "P12.2: the first slot", top, 0, l, some("many"), api.OK)
		holdFollow(t, "P12.2: the last slot", top, n-1, l, some("many"), api.OK)
	}
}

// lengths are of texts that are no pairs.
var lengths = []int{63, 65, 0, 1, 31, 32, 33, 62, 66, 96, 128, 256 + 64, 1<<16 + 64}

// P12.2: ErrSum of a pair of another length, at each place, whether its digest is the one that is followed or not.
func TestFollowLength(t *testing.T) {
	for k, n := range sizes {
		for place := range k + 1 {
			for _, length := range lengths {
				l, top := manyPairs(k + 1)
				l[place] = strings.Repeat(l[place], length/bothBytes+1)[:length]
				for slot := range n {
					holdFollow(t, "P12.2: no pair", top, slot, l, "", api.ErrSum)
				}
				now := nodeOf(l[place])
				for i := place - 1; i >= 0; i-- {
					l[i] = now + now
					now = nodeOf(l[i])
				}
				for slot := range n {
					holdFollow(t, "P12.2: no pair, but its digest", now, slot, l, "", api.ErrSum)
				}
			}
		}
	}
}

// P12.2: ErrSum of a top that is another one.
func TestFollowTop(t *testing.T) {
	for _, n := range sizes {
		leaves := row("top", n)
		top := digestAt(leaves, 1)
		tops := []string{"", top[1:], top[:31], top + "\x00", "\x00" + top, top + top, some("top"), strings.Repeat("\x00", digestBytes), digestAt(leaves, 2), digestAt(leaves, 3), leaves[0], pairAt(leaves, 1), strings.Repeat("x", 1<<16)}
		for bit := range 8 * digestBytes {
			tops = append(tops, turned(top, bit/8, 1<<(bit%8)))
		}
		for slot := range n {
			pairs := pairsOver(leaves, slot)
			for _, s := range tops {
				holdFollow(t, "P12.2: another top", s, slot, pairs, "", api.ErrSum)
			}
		}
	}
}

// P12.2: ErrSum of pairs in one of which one byte is another, at each place of each, on the way or beside it.
func TestFollowOneByte(t *testing.T) {
	for _, n := range sizes {
		leaves := row("byte", n)
		top := digestAt(leaves, 1)
		for slot := range n {
			pairs := pairsOver(leaves, slot)
			for i, pair := range pairs {
				for at := range bothBytes {
					holdFollow(t, "P12.2: one byte", top, slot, with(pairs, i, turned(pair, at, 1<<(at%8))), "", api.ErrSum)
				}
			}
		}
	}
}

// P12.2: ErrSum of pairs in another order, of halves that are changed round, of one that is another tree's.
func TestFollowMovedPairs(t *testing.T) {
	for _, n := range sizes {
		leaves, others := row("moved", n), row("others", n)
		top := digestAt(leaves, 1)
		for slot := range n {
			pairs, alien := pairsOver(leaves, slot), pairsOver(others, slot)
			for i, pair := range pairs {
				holdFollow(t, "P12.2: halves changed round", top, slot, with(pairs, i, pair[digestBytes:]+pair[:digestBytes]), "", api.ErrSum)
				holdFollow(t, "P12.2: another tree's pair", top, slot, with(pairs, i, alien[i]), "", api.ErrSum)
				for j := range i {
					holdFollow(t, "P12.2: pairs changed round", top, slot, with(with(pairs, i, pairs[j]), j, pair), "", api.ErrSum)
				}
			}
			holdFollow(t, "P12.2: another tree's pairs", top, slot, alien, "", api.ErrSum)
		}
	}
}

// putOn is the document's sentence on Put, from the leaf up, without a look at what the pairs have on the way.
func putOn(slot int, pairs []string, digest string) ([]string, string) {
	l := slices.Clone(pairs)
	for i := len(l) - 1; i >= 0; i-- {
		if slot%2 == 0 {
			l[i] = digest + l[i][digestBytes:]
		} else {
			l[i] = l[i][:digestBytes] + digest
		}
		digest, slot = nodeOf(l[i]), slot/2
	}
	return l, digest
}

// P12.3: a leaf changed: the pairs and the top of the tree that has it.
func TestPut(t *testing.T) {
	for _, n := range sizes {
		leaves := row("put", n)
		for slot := range n {
			for _, digest := range []string{some("new"), leaves[slot], leaves[(slot+1)%n], strings.Repeat("\x00", digestBytes), strings.Repeat("ä", 16)} {
				now := with(leaves, slot, digest)
				pairs, top := pairsOver(now, slot), digestAt(now, 1)
				holdPut(t, "P12.3: a leaf", slot, pairsOver(leaves, slot), digest, pairs, top, api.OK)
				holdFollow(t, "P12.3: the new leaf followed", top, slot, pairs, digest, api.OK)
			}
		}
	}
}

// P12.3: trees of two and of four leaves by hand.
func TestPutByHand(t *testing.T) {
	a, b, c, d, x := some("a"), some("b"), some("c"), some("d"), some("x")
	holdPut(t, "P12.3: two leaves", 0, []string{a + b}, x, []string{x + b}, nodeOf(x+b), api.OK)
	holdPut(t, "P12.3: two leaves", 1, []string{a + b}, x, []string{a + x}, nodeOf(a+x), api.OK)
	up := nodeOf(a+b) + nodeOf(x+d)
	holdPut(t, "P12.3: four leaves", 2, []string{nodeOf(a+b) + nodeOf(c+d), c + d}, x, []string{up, x + d}, nodeOf(up), api.OK)
}

// P12.3: Put doesn't ask whether the pairs hang together: of any, the halves beside the way are as they were, those on it are new.
func TestPutAnyPairs(t *testing.T) {
	for k, n := range sizes {
		for _, pairs := range [][]string{
			slices.Repeat([]string{strings.Repeat("p", bothBytes)}, k+1),
			slices.Repeat([]string{strings.Repeat("ä", bothBytes/2)}, k+1),
			pairsOfHalves(row("loose", 2*k+2)),
		} {
			for slot := range n {
				l, top := putOn(slot, pairs, some("any"))
				holdPut(t, "P12.3: any pairs", slot, pairs, some("any"), l, top, api.OK)
				for i := range l {
					beside := 1 - slot>>(k-i)&1
					if at := beside * digestBytes; l[i][at:at+digestBytes] != pairs[i][at:at+digestBytes] || l[i] == pairs[i] {
						t.Fatal("the measure is wrong")
					}
				}
				holdFollow(t, "P12.3: any pairs, followed", top, slot, l, some("any"), api.OK)
			}
		}
	}
}

// pairsOfHalves tells pairs of digests, two by two.
func pairsOfHalves(halves []string) []string {
	var l []string
	for two := range slices.Chunk(halves, 2) {
		l = append(l, strings.Join(two, ""))
	}
	return l
}

// P12.3: ErrArg, as of Follow: where there aren't 1 to 4 pairs, or no such slot; ahead of ErrShape.
func TestPutNone(t *testing.T) {
	for _, digest := range []string{some("new"), "", some("new")[1:], some("new") + "x"} {
		for _, slot := range append([]int{0, 1, 2, 15, 16, 31}, ints...) {
			holdPut(t, "P12.3: nil", slot, nil, digest, nil, "", api.ErrArg)
			for _, n := range noNumbers {
				l, _ := manyPairs(min(n, 258))
				l = append(l, make([]string, n-len(l))...)
				holdPut(t, "P12.3: so many pairs there aren't", slot, l, digest, nil, "", api.ErrArg)
				holdPut(t, "P12.3: so many there aren't, and no pairs", slot, make([]string, n), digest, nil, "", api.ErrArg)
			}
		}
		for k, n := range sizes {
			l, _ := manyPairs(k + 1)
			for _, slot := range append([]int{-1, n, n + 1, 2*n - 1, 2 * n, -n}, ints...) {
				holdPut(t, "P12.3: no such slot", slot, l, digest, nil, "", api.ErrArg)
				holdPut(t, "P12.3: no such slot, and no pairs", slot, make([]string, k+1), digest, nil, "", api.ErrArg)
				holdPut(t, "P12.3: no such slot, the last no pair", slot, with(l, k, "x"), digest, nil, "", api.ErrArg)
			}
		}
	}
}

// P12.3: ErrShape of a pair of another length, at each place, or a digest of another, or both.
func TestPutShape(t *testing.T) {
	for k, n := range sizes {
		good, digest := pairsOfHalves(row("shape", 2*k+2)), some("new")
		for _, slot := range []int{0, 1, n / 2, n - 1} {
			for _, length := range lengths {
				bad := strings.Repeat("x", length)
				for place := range good {
					holdPut(t, "P12.3: no pair", slot, with(good, place, bad), digest, nil, "", api.ErrShape)
					holdPut(t, "P12.3: no pair, no digest", slot, with(good, place, bad), digest[1:], nil, "", api.ErrShape)
				}
			}
			for length := range 300 {
				if length != digestBytes {
					holdPut(t, "P12.3: no digest", slot, good, strings.Repeat("x", length), nil, "", api.ErrShape)
				}
			}
			holdPut(t, "P12.3: 32 runes of two bytes", slot, good, strings.Repeat("ä", digestBytes), nil, "", api.ErrShape)
		}
	}
}

// kept is a tree that somebody keeps node by node, as Build tells it.
type kept struct {
	pairs []string
	top   string
}

// put changes a leaf by Put of the pairs over it.
func (k *kept) put(t *testing.T, slot int, digest string) {
	t.Helper()
	path, _ := Path(len(k.pairs), slot)
	var over []string
	for _, node := range path {
		over = append(over, k.pairs[node])
	}
	l, top, e := Put(slot, over, digest)
	if e != api.OK || len(l) != len(path) {
		t.Fatalf("P12.3: Put of slot %d: %d pairs, error %d", slot, len(l), e)
	}
	for i, node := range path {
		k.pairs[node] = l[i]
	}
	k.top = top
}

// hold holds it against the tree that Build makes of leaves, and that each of these is followed.
func (k *kept) hold(t *testing.T, leaves []string) {
	t.Helper()
	holdBuild(t, "P12.3: leaves changed by Put", leaves, k.pairs, k.top, api.OK)
	for slot := range leaves {
		var over []string
		for _, node := range wayUp(len(leaves), slot) {
			over = append(over, k.pairs[node])
		}
		holdFollow(t, "P12.3: a leaf behind Put", k.top, slot, over, leaves[slot], api.OK)
	}
}

// P12.3: leaves changed one by one by Put make the tree that Build makes of them, behind each one, in whichever order.
func TestPutOneByOne(t *testing.T) {
	c := chance(12)
	for _, n := range sizes {
		for round := range 12 {
			leaves, now := row("old", n), row("now"+strconv.Itoa(round), n)
			pairs, top, _ := Build(leaves)
			tree := kept{pairs, top}
			for _, slot := range c.order(n, round) {
				leaves[slot] = now[slot]
				tree.put(t, slot, now[slot])
				tree.hold(t, leaves)
			}
			if !slices.Equal(leaves, now) {
				t.Fatal("the measure left a leaf out")
			}
			for range 30 {
				slot := c.below(n)
				leaves[slot] = some(strconv.Itoa(c.below(5)))
				tree.put(t, slot, leaves[slot])
			}
			tree.hold(t, leaves)
		}
	}
}

// chance tells numbers that look like chance, the same in each run.
type chance uint64

func (c *chance) below(n int) int {
	*c = *c*6364136223846793005 + 1442695040888963407
	return int(uint64(*c) >> 33 % uint64(n))
}

// order tells the slots rising, falling, or in some order.
func (c *chance) order(n, round int) []int {
	var l []int
	for slot := range n {
		switch round {
		case 0:
			l = append(l, slot)
		case 1:
			l = slices.Insert(l, 0, slot)
		default:
			l = slices.Insert(l, c.below(len(l)+1), slot)
		}
	}
	return l
}

// P12.4: of ways that are no two ways from one top to unlike leaves none is told.
func TestNoClash(t *testing.T) {
	for k, n := range sizes {
		leaves, others := row("clash", n), row("others", n)
		for slot := range n {
			a, b := pairsOver(leaves, slot), pairsOver(others, slot)
			holdNoClash(t, "P12.4: leaves that are the same", slot, a, a)
			holdNoClash(t, "P12.4: tops that are unlike", slot, a, b)
			holdNoClash(t, "P12.4: one leaf changed, and so the top", slot, a, pairsOver(with(leaves, slot, some("x")), slot))
			holdNoClash(t, "P12.4: a leaf beside it changed, and so the top", slot, a, pairsOver(with(leaves, slot^1, some("x")), slot))
			for i := range a {
				holdNoClash(t, "P12.4: one that Follow refuses", slot, a, with(a, i, b[i]))
				holdNoClash(t, "P12.4: one that Follow refuses, by a byte", slot, a, with(a, i, turned(a[i], 0, 1)))
				holdNoClash(t, "P12.4: one that Follow refuses, by its length", slot, a, with(a, i, a[i][1:]))
				holdNoClash(t, "P12.4: both refused", slot, with(a, i, b[i]), with(a, i, "x"))
				holdNoClash(t, "P12.4: both refused, both alike", slot, with(a, i, b[i]), with(a, i, b[i]))
				holdNoClash(t, "P12.4: not as many", slot, a, a[:i])
			}
			holdNoClash(t, "P12.4: not as many", slot, a, append(slices.Clone(a), leaves[0]+leaves[1]))
			holdNoClash(t, "P12.4: none at all", slot, a, nil)
			holdNoClash(t, "P12.4: another leaf's", slot, a, pairsOver(leaves, n-1-slot))
		}
		l, _ := manyPairs(k + 1)
		for _, slot := range append([]int{-1, n, n + 1, 2 * n}, ints...) {
			holdNoClash(t, "P12.4: no such slot", slot, l, l)
			holdNoClash(t, "P12.4: no such slot, unlike", slot, l, pairsOfHalves(row("no slot", 2*k+2)))
		}
	}
}

// P12.4: none is told of numbers of pairs that there never are over a leaf.
func TestNoClashNumber(t *testing.T) {
	for _, slot := range append([]int{0, 1, 15, 16, 31}, ints...) {
		holdNoClash(t, "P12.4: nil", slot, nil, nil)
		holdNoClash(t, "P12.4: one text, and none", slot, []string{strings.Repeat("x", bothBytes)}, nil)
		for _, n := range noNumbers {
			l, _ := manyPairs(min(n, 258))
			l = append(l, make([]string, n-len(l))...)
			holdNoClash(t, "P12.4: so many there aren't", slot, l, l)
			holdNoClash(t, "P12.4: so many there aren't, unlike", slot, l, make([]string, n))
		}
	}
}

// Nobody knows two texts that have one digest of layer 5's: what is told of such is held by weak digests.

// halves is a weak digest, of each byte of one half with that of the other: so each half may be had with any digest.
func halves(pair string) string {
	if len(pair) < bothBytes {
		return strings.Repeat("h", digestBytes)
	}
	b := []byte(pair[:digestBytes])
	for i := range b {
		b[i] ^= pair[digestBytes+i]
	}
	return string(b)
}

// always is a weak digest, the same of all: so what stands beside the way may be anything.
func always(string) string {
	return strings.Repeat("=", digestBytes)
}

// by tells clash by a weak digest.
func by(weak func(string) string) func(int, []string, []string) (string, string, bool) {
	return func(slot int, a, b []string) (string, string, bool) { return clash(weak, slot, a, b) }
}

// wayBy tells pairs over a slot that lead by halves from a top over the digests on the way, the last of which is the leaf's.
func wayBy(top string, slot int, on []string) []string {
	var l []string
	for i, digest := range on {
		beside := halves(top + digest)
		if slot>>(len(on)-1-i)%2 == 0 {
			l = append(l, digest+beside)
		} else {
			l = append(l, beside+digest)
		}
		top = digest
	}
	return l
}

// P12.4: two ways from one top that part at each place: unlike leaves clash, by the first pair that differs, and the same ones don't, wherever they come together again.
func TestClashParts(t *testing.T) {
	tell := by(halves)
	for k, n := range sizes {
		on := row("on", k+1)
		for slot := range n {
			a := wayBy(some("top"), slot, on)
			holdClash(t, "P12.4: the same way", tell, slot, a, a, "", "", false)
			for first := range on {
				for last := first; last <= k; last++ { // both ways are apart from first to last
					b := wayBy(some("top"), slot, slices.Concat(on[:first], row("off", last-first+1), on[last+1:]))
					if last < k {
						holdClash(t, "P12.4: the same leaf by another way", tell, slot, a, b, "", "", false)
						continue
					}
					holdClash(t, "P12.4: a clash", tell, slot, a, b, "\x01"+a[first], "\x01"+b[first], true)
					if a[first] == b[first] || halves(a[first]) != halves(b[first]) {
						t.Fatal("the measure is wrong")
					}
				}
			}
		}
	}
}

// P12.4: of ways that clash none is told any more where one of what it asks for doesn't hold.
func TestClashLacks(t *testing.T) {
	tell := by(halves)
	for k, n := range sizes {
		for slot := range n {
			a, b := wayBy(some("top"), slot, row("on", k+1)), wayBy(some("top"), slot, row("off", k+1))
			holdClash(t, "P12.4: a clash", tell, slot, a, b, "\x01"+a[0], "\x01"+b[0], true)
			holdNoClash(t, "P12.4: no clash by layer 5's digest", slot, a, b)
			holdClash(t, "P12.4: tops that are unlike", tell, slot, a, wayBy(some("other"), slot, row("off", k+1)), "", "", false)
			for i := range b {
				for at := range bothBytes {
					holdClash(t, "P12.4: one byte", tell, slot, a, with(b, i, turned(b[i], at, 1)), "", "", false)
				}
				for _, s := range []string{b[i][:63], b[i] + "x", b[i] + b[i], ""} {
					holdClash(t, "P12.4: no pair", tell, slot, a, with(b, i, s), "", "", false)
				}
			}
			holdClash(t, "P12.4: one pair less", tell, slot, a, b[:k], "", "", false)
			holdClash(t, "P12.4: one pair more", tell, slot, a, wayBy(some("top"), slot, row("off", k+2)), "", "", false)
			for _, none := range []int{-1, n, n + slot, n * n, slot - n, math.MinInt, math.MaxInt} {
				holdClash(t, "P12.4: no such slot", tell, none, a, b, "", "", false)
			}
		}
	}
	for _, n := range []int{5, 6, 63, 64, 65} {
		a, b := wayBy(some("top"), 0, row("on", n)), wayBy(some("top"), 0, row("off", n))
		holdClash(t, "P12.4: so many there aren't", tell, 0, a, b, "", "", false)
	}
}

// P12.4: the first pair that differs is told, also where it differs beside the way alone; and none where the leaves are the same.
func TestClashBeside(t *testing.T) {
	tell := by(always)
	for k, n := range sizes {
		for slot := range n {
			plain := wayAlways(slot, k+1, some("leaf"), -1)
			for place := range k + 1 {
				same := wayAlways(slot, k+1, some("leaf"), place)
				holdClash(t, "P12.4: unlike beside the way alone", tell, slot, plain, same, "", "", false)
				other := wayAlways(slot, k+1, some("other"), place)
				holdClash(t, "P12.4: unlike beside the way, and at the leaf", tell, slot, plain, other, "\x01"+plain[place], "\x01"+other[place], true)
			}
			other := wayAlways(slot, k+1, some("other"), -1)
			holdClash(t, "P12.4: unlike at the leaf alone", tell, slot, plain, other, "\x01"+plain[k], "\x01"+other[k], true)
			for i := range k {
				holdClash(t, "P12.4: a pair that is too long", tell, slot, plain, with(other, i, other[i]+"x"), "", "", false)
			}
		}
	}
}

// wayAlways tells so many pairs that lead by always to a leaf, with something else beside the way at a place (none at -1).
func wayAlways(slot, pairs int, leaf string, place int) []string {
	var l []string
	for i := range pairs {
		on, beside := always(""), strings.Repeat("-", digestBytes)
		if i == pairs-1 {
			on = leaf
		}
		if i == place {
			beside = some("beside")
		}
		if slot>>(pairs-1-i)%2 == 0 {
			l = append(l, on+beside)
		} else {
			l = append(l, beside+on)
		}
	}
	return l
}

// source tells the package's functions.
func source(t *testing.T) map[string]*ast.FuncDecl {
	t.Helper()
	file, err := parser.ParseFile(token.NewFileSet(), "tree.go", nil, 0)
	if err != nil {
		t.Fatal(err)
	}
	l := map[string]*ast.FuncDecl{}
	for _, d := range file.Decls {
		if f, ok := d.(*ast.FuncDecl); ok {
			l[f.Name.Name] = f
		}
	}
	return l
}

// finds: is there such a part in it?
func finds[T ast.Node](within ast.Node, such func(T) bool) bool {
	found := false
	ast.Inspect(within, func(n ast.Node) bool {
		x, ok := n.(T)
		found = found || ok && such(x)
		return true
	})
	return found
}

// isNamed: is it that name?
func isNamed(e ast.Expr, name string) bool {
	x, ok := e.(*ast.Ident)
	return ok && x.Name == name
}

// hands: does it call a function by its name, and hand layer 5's Node to it first?
func hands(f *ast.FuncDecl, to string) bool {
	return finds(f, func(c *ast.CallExpr) bool {
		if !isNamed(c.Fun, to) || len(c.Args) == 0 {
			return false
		}
		s, ok := c.Args[0].(*ast.SelectorExpr)
		return ok && isNamed(s.X, "sha") && s.Sel.Name == "Node"
	})
}

// P12.4: Clash is clash by layer 5's digest, as Follow is follow, so that what is held of the one by weak digests holds of the other.
func TestByNode(t *testing.T) {
	l := source(t)
	if !hands(l["Follow"], "follow") || !hands(l["Clash"], "clash") {
		t.Error("P12.4: Follow and Clash aren't follow and clash by layer 5's Node")
	}
}

// Ways, layer 12: the nodes over a leaf are gone through by a range over a function, wherever they are.
func TestNodesByFunction(t *testing.T) {
	l := source(t)
	for _, name := range []string{"Path", "follow", "Put"} {
		ranges := finds(l[name], func(r *ast.RangeStmt) bool {
			return finds(r.X, func(c *ast.CallExpr) bool { return isNamed(c.Fun, "over") })
		})
		if !ranges {
			t.Errorf("Ways: %s doesn't go through the nodes over a leaf by a range over a function", name)
		}
	}
}

// Ways, layer 12: that function tells each node with its place and the side on which the way goes on, and may be left at each.
func TestOver(t *testing.T) {
	for k, n := range sizes {
		for slot := range n {
			var nodes iter.Seq[step] = over(n, slot)
			path := append(wayUp(n, slot), n+slot)
			for left := range k + 2 {
				seen := 0
				for at := range nodes {
					if seen == left {
						break
					}
					if want := (step{seen, path[seen], path[seen+1] - 2*path[seen]}); at != want {
						t.Fatalf("Ways: the node %d over slot %d of %d is %v, want %v", seen, slot, n, at, want)
					}
					seen++
				}
				if seen != min(left, k+1) {
					t.Fatalf("Ways: %d nodes over slot %d of %d, left behind %d", seen, slot, n, left)
				}
			}
		}
	}
}

// Ways, layer 12: the leaves are gone through by a range over an integer.
func TestLeavesByInteger(t *testing.T) {
	ranges := finds(source(t)["Build"], func(r *ast.RangeStmt) bool {
		slot, ok := r.Key.(*ast.Ident)
		leaf := func(x *ast.IndexExpr) bool { return ok && isNamed(x.X, "leaves") && isNamed(x.Index, slot.Name) }
		return isNamed(r.X, "n") && finds(r.Body, leaf)
	})
	if !ranges {
		t.Error("Ways: Build doesn't go through the leaves by a range over an integer")
	}
}
