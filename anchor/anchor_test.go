package anchor

import (
	"go/ast"
	"go/parser"
	"go/token"
	"math"
	"reflect"
	"slices"
	"strconv"
	"strings"
	"testing"

	"cofferdam/api"
)

// digestBytes is the document's length of a digest.
const digestBytes = 32

// greatest is the greatest count that there is.
const greatest = uint64(math.MaxUint64)

// lengths are of texts that are no digests.
var lengths = []int{0, 1, 16, 31, 33, 63, 64, 65, 256 + 32, 1 << 16, 1<<16 + 32}

// digest tells a text of 32 bytes, another one for each number.
func digest(n uint64) string {
	s := strconv.FormatUint(n, 16)
	return strings.Repeat(".", digestBytes-len(s)) + s
}

// at tells an anchor with that count, which was set once (not at all of 0).
func at(t *testing.T, count uint64) *Anchor {
	t.Helper()
	a := New()
	if count > 0 {
		holdSet(t, "P11.1: a first Set", a, count, digest(count), api.OK)
	}
	return a
}

// holdGet holds what an anchor tells; twice, as telling changes nothing.
func holdGet(t *testing.T, what string, a *Anchor, count uint64, text string) {
	t.Helper()
	for range 2 {
		if n, s := a.Get(); n != count || s != text {
			t.Fatalf("%s: Get: %d, %.40q of %d bytes; want %d, %.40q", what, n, s, len(s), count, text)
		}
	}
}

// holdSet holds what a Set answers, and what the anchor tells behind it: both new ones, or both old ones.
func holdSet(t *testing.T, what string, a *Anchor, count uint64, text string, want api.Errno) {
	t.Helper()
	n, s := a.Get()
	if e := a.Set(count, text); e != want {
		t.Fatalf("%s: Set(%d, %d bytes) of an anchor with %d: error %d, want %d", what, count, len(text), n, e, want)
	}
	if want == api.OK {
		n, s = count, text
	}
	holdGet(t, what+": behind Set("+strconv.FormatUint(count, 10)+")", a, n, s)
}

// P11.1: a new anchor has the count 0 and the empty text, each of them its own.
func TestNew(t *testing.T) {
	a, b := New(), New()
	if a == nil || b == nil || a == b {
		t.Fatal("P11.1: New tells no anchor, or the same one twice")
	}
	holdGet(t, "P11.1: a new anchor", a, 0, "")
	holdGet(t, "P11.1: a new anchor", b, 0, "")
}

// The document's example.
func TestExample(t *testing.T) {
	a, d := New(), digest(7)
	holdSet(t, "P11.1: the example", a, 1, d, api.OK)
	holdSet(t, "P11.1: the example", a, 1, d, api.ErrUsed)
}

// P11.1: ErrShape of each digest that hasn't 32 bytes, with each count above the anchor's, new or not; nothing is changed.
func TestShape(t *testing.T) {
	for _, had := range []uint64{0, 1, 5, 1 << 32, greatest - 1} {
		for _, n := range lengths {
			a := at(t, had)
			for _, count := range []uint64{had + 1, greatest} {
				holdSet(t, "P11.1: no digest", a, count, strings.Repeat("x", n), api.ErrShape)
			}
			holdSet(t, "P11.1: behind no digest", a, had+1, digest(9), api.OK)
		}
	}
}

// P11.1: each length up to 300 bytes: 32 is a digest, no other is.
func TestEachLength(t *testing.T) {
	for n := range 300 {
		want := api.ErrShape
		if n == digestBytes {
			want = api.OK
		}
		holdSet(t, "P11.1: each length", New(), 1, strings.Repeat("\x00", n), want)
	}
}

// P11.1, rule 6: a digest's length is its bytes, whatever these are, and all of them are told again.
func TestBytes(t *testing.T) {
	a := New()
	for k := range 256 {
		holdSet(t, "P11.1: one byte throughout", a, uint64(k)+1, strings.Repeat(string([]byte{byte(k)}), digestBytes), api.OK)
	}
	for k := range 256 - digestBytes + 1 {
		var row []byte
		for i := range digestBytes {
			row = append(row, byte(k+i))
		}
		holdSet(t, "P11.1: bytes in a row", a, uint64(k)+1000, string(row), api.OK)
	}
	holdSet(t, "P11.1: 16 runes of two bytes", a, 2000, strings.Repeat("ä", 16), api.OK)
	holdSet(t, "P11.1: 32 runes of two bytes", a, 2001, strings.Repeat("ä", 32), api.ErrShape)
	holdSet(t, "P11.1: 32 digits and a blank", a, 2001, strings.Repeat("0", 32)+" ", api.ErrShape)
}

// counts are the edges of counts, and those near the edges of smaller kinds of numbers.
func counts() []uint64 {
	var l []uint64
	for _, n := range []uint64{0, 2, 5, 1 << 8, 1 << 16, 1 << 31, 1 << 32, 1 << 53, 1 << 63, greatest - 1} {
		l = append(l, n-1, n, n+1) // 0 - 1 is the greatest
	}
	slices.Sort(l)
	return slices.Compact(l)
}

// P11.1: of each pair of counts: OK where the second one is above the first, else ErrUsed, and nothing is changed.
func TestCounts(t *testing.T) {
	l := counts()
	if l[0] != 0 || l[len(l)-1] != greatest {
		t.Fatal("the counts lack an edge")
	}
	for i, had := range l {
		for j, count := range l {
			want := api.ErrUsed
			if j > i {
				want = api.OK
			}
			holdSet(t, "P11.1: another digest", at(t, had), count, digest(3), want)
			holdSet(t, "P11.1: the same digest", at(t, had), count, digest(had), want)
		}
	}
}

// P11.1: a count of 0 is none above a new anchor's, which stays new.
func TestZeroOfANewAnchor(t *testing.T) {
	a := New()
	holdSet(t, "P11.1: 0 of a new anchor", a, 0, digest(1), api.ErrUsed)
	holdSet(t, "P11.1: 0 of a new anchor, no digest", a, 0, "", api.ErrShape)
	holdGet(t, "P11.1: 0 of a new anchor", a, 0, "")
	holdSet(t, "P11.1: 1 behind 0", a, 1, digest(1), api.OK)
}

// P11.1: behind the greatest count no Set is taken, also not one whose count would be one above it.
func TestBehindTheGreatest(t *testing.T) {
	for _, had := range []uint64{0, 1, greatest - 1} {
		a := at(t, had)
		holdSet(t, "P11.1: the greatest", a, greatest, digest(8), api.OK)
		for _, count := range append(counts(), greatest) {
			holdSet(t, "P11.1: behind the greatest", a, count, digest(9), api.ErrUsed)
			holdSet(t, "P11.1: behind the greatest, no digest", a, count, "x", api.ErrShape)
		}
		holdGet(t, "P11.1: behind the greatest", a, greatest, digest(8))
	}
}

// P11.1, rule 1: ErrShape ahead of ErrUsed where both hold.
func TestOrderOfErrors(t *testing.T) {
	for _, had := range []uint64{0, 1, 5, 1 << 63, greatest} {
		a := at(t, had)
		for _, n := range lengths {
			for _, count := range []uint64{0, had / 2, max(had, 1) - 1, had} {
				holdSet(t, "P11.1: both errors", a, count, strings.Repeat("x", n), api.ErrShape)
			}
		}
		holdSet(t, "P11.1: ErrUsed alone", a, had, digest(2), api.ErrUsed)
	}
}

// Rule 3: refused Sets, many and of each kind, leave what a later Set is held against.
func TestRefusedChangesNothing(t *testing.T) {
	a := at(t, 100)
	for range 50 {
		holdSet(t, "rule 3: a great count, no digest", a, greatest, "x", api.ErrShape)
		holdSet(t, "rule 3: the same count", a, 100, digest(1), api.ErrUsed)
		holdSet(t, "rule 3: a count below it", a, 99, digest(1), api.ErrUsed)
		holdSet(t, "rule 3: both", a, 0, "", api.ErrShape)
	}
	holdSet(t, "rule 3: one above it", a, 101, digest(2), api.OK)
}

// P11.1: rows of Sets whose counts leap; the counts between aren't to be had any more.
func TestLeaps(t *testing.T) {
	a, had := New(), uint64(0)
	for _, count := range []uint64{1, 2, 3, 10, 11, 1000, 1 << 31, 1 << 32, 1<<32 + 1, 1 << 62, 1<<63 + 5, greatest - 1, greatest} {
		holdSet(t, "P11.1: a leap", a, count, digest(count), api.OK)
		for _, back := range []uint64{count, count - 1, had + (count-had)/2, had, 0} {
			holdSet(t, "P11.1: behind a leap", a, back, digest(1), api.ErrUsed)
		}
		had = count
	}
	b := New()
	for k := range uint64(64) {
		holdSet(t, "P11.1: twice as much each time", b, 1<<k, digest(k), api.OK)
	}
}

// P11.1: a digest may come again with a greater count, at once or later.
func TestDigestAgain(t *testing.T) {
	a := New()
	for k := range uint64(20) {
		holdSet(t, "P11.1: a digest again", a, k+1, digest(k/2%2), api.OK)
	}
}

// The promises of nil anchors: ErrNil ahead of the other errors, 0, the empty text.
func TestNil(t *testing.T) {
	var a *Anchor
	holdGet(t, "P11.1: a nil anchor", a, 0, "")
	for _, count := range counts() {
		for _, n := range append(lengths, digestBytes) {
			if e := a.Set(count, strings.Repeat("x", n)); e != api.ErrNil {
				t.Errorf("P11.1: a nil anchor: Set(%d, %d bytes): error %d", count, n, e)
			}
		}
	}
	holdGet(t, "P11.1: a nil anchor, behind Sets", a, 0, "")
	holdGet(t, "P2: a new anchor behind Sets of a nil one", New(), 0, "")
}

// Rule 4: what is told is as it was, whatever becomes of the bytes that it was made of.
func TestDigestIsItsOwn(t *testing.T) {
	b := []byte(strings.Repeat("a", 3*digestBytes))
	a := New()
	holdSet(t, "P11.1: a piece of a text", a, 1, string(b)[digestBytes:2*digestBytes], api.OK)
	clear(b)
	n, s := a.Get()
	holdSet(t, "P11.1: behind a Get", a, 2, digest(2), api.OK)
	if n != 1 || s != strings.Repeat("a", digestBytes) {
		t.Errorf("rule 4: what was told has become %d, %q", n, s)
	}
}

// P2: what is done with one anchor, none of it is seen of another, made ahead of it or behind it.
func TestApart(t *testing.T) {
	a, b := New(), New()
	holdSet(t, "P2: the first", a, 5, digest(5), api.OK)
	holdGet(t, "P2: the second, never set", b, 0, "")
	holdSet(t, "P2: the second", b, 1, digest(1), api.OK)
	holdGet(t, "P2: the first", a, 5, digest(5))
	holdSet(t, "P2: the second, refused", b, 1, digest(6), api.ErrUsed)
	holdSet(t, "P2: the first, to the greatest", a, greatest, digest(7), api.OK)
	c := New()
	holdGet(t, "P2: a third", c, 0, "")
	holdSet(t, "P2: the second, a count that the first had", b, 5, digest(5), api.OK)
	holdSet(t, "P2: the third, a count that both had", c, 5, digest(8), api.OK)
	holdGet(t, "P2: the first", a, greatest, digest(7))
	holdGet(t, "P2: the second", b, 5, digest(5))
}

// chance tells numbers that look like chance, the same in each run.
type chance uint64

func (c *chance) next() uint64 {
	*c = *c*6364136223846793005 + 1442695040888963407
	return uint64(*c) ^ uint64(*c)>>29
}

func (c *chance) below(n int) int { return int(c.next() >> 33 % uint64(n)) }

// count tells one near what an anchor has, or a leap ahead, or any.
func (c *chance) count(had uint64) uint64 {
	switch c.below(8) {
	case 0:
		return c.next()
	case 1:
		return had + c.next()>>c.below(64)
	}
	return had + uint64(c.below(5)) - 1
}

// text tells a digest, or now and then what is none.
func (c *chance) text() string {
	switch c.below(8) {
	case 0:
		return strings.Repeat("x", c.below(80))
	case 1:
		return digest(c.next())[1:]
	}
	return digest(c.next())
}

// model is the document's sentence on Set, over all that an anchor ever took.
type model struct {
	taken []uint64
	texts []string
}

func (m *model) get() (uint64, string) {
	if len(m.taken) == 0 {
		return 0, ""
	}
	return m.taken[len(m.taken)-1], m.texts[len(m.texts)-1]
}

func (m *model) set(count uint64, text string) api.Errno {
	switch {
	case len(text) != digestBytes:
		return api.ErrShape
	case count == 0 || slices.ContainsFunc(m.taken, func(n uint64) bool { return n >= count }):
		return api.ErrUsed
	}
	m.taken, m.texts = append(m.taken, count), append(m.texts, text)
	return api.OK
}

// P11.1: long rows of Sets, held against the model behind each; and P2: anchors that are set by turns have nothing to do with one another.
func TestRowsOfCalls(t *testing.T) {
	c := chance(11)
	for range 60 {
		anchors, models := [3]*Anchor{New(), New(), New()}, [3]model{}
		for range 200 {
			i := c.below(3)
			had, _ := anchors[i].Get()
			count, text := c.count(had), c.text()
			holdSet(t, "P11.1: a row of calls", anchors[i], count, text, models[i].set(count, text))
			for j, a := range anchors {
				n, s := models[j].get()
				holdGet(t, "P2: anchor "+strconv.Itoa(j), a, n, s)
			}
		}
	}
}

// Nobody else can change it: nothing of it is in others' reach but Get and Set.
func TestNobodyElse(t *testing.T) {
	kind := reflect.TypeFor[Anchor]()
	for _, f := range reflect.VisibleFields(kind) {
		if f.IsExported() {
			t.Errorf("P11.1: its %s can be changed by others", f.Name)
		}
	}
	var names []string
	for m := range reflect.PointerTo(kind).Methods() {
		names = append(names, m.Name)
	}
	if !slices.Equal(names, []string{"Get", "Set"}) {
		t.Errorf("P11.1: others reach %q", names)
	}
}

// Ways, layer 11: what it has is embedded in it, all of it.
func TestEmbedded(t *testing.T) {
	kind := reflect.TypeFor[Anchor]()
	if kind.NumField() != 1 || !kind.Field(0).Anonymous || kind.Field(0).Type.Kind() != reflect.Struct {
		t.Fatal("Ways: what an anchor has isn't embedded in it")
	}
	if n := kind.Field(0).Type.NumField(); n != 2 {
		t.Errorf("Ways: what is embedded has %d parts, want the count and the digest", n)
	}
}

// Ways, layer 11: and Get and Set name its parts as the anchor's own, promoted.
func TestPromoted(t *testing.T) {
	file, err := parser.ParseFile(token.NewFileSet(), "anchor.go", nil, 0)
	if err != nil {
		t.Fatal(err)
	}
	inner := reflect.TypeFor[Anchor]().Field(0).Type
	for _, d := range file.Decls {
		f, ok := d.(*ast.FuncDecl)
		if !ok || f.Name.Name != "Get" && f.Name.Name != "Set" {
			continue
		}
		found := false
		ast.Inspect(f, func(n ast.Node) bool {
			if s, ok := n.(*ast.SelectorExpr); ok {
				x, plain := s.X.(*ast.Ident)
				_, part := inner.FieldByName(s.Sel.Name)
				found = found || plain && part && x.Name == f.Recv.List[0].Names[0].Name
			}
			return true
		})
		if !found {
			t.Errorf("Ways: %s doesn't name what is promoted", f.Name.Name)
		}
	}
}
