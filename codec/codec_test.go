package codec

import (
	"encoding/binary"
	"go/ast"
	"go/parser"
	"go/token"
	"math"
	"slices"
	"strconv"
	"strings"
	"testing"

	"cofferdam/api"
)

// eight is the document's length of a number.
const eight = 8

// numbers are edges of numbers, and such as are small ones where they are cut to fewer bits, or taken with a sign.
func numbers() []uint64 {
	l := []uint64{3, 8, 0x0102030405060708, 0x8877665544332211, 1<<32 + 5, 5 << 32, 1<<63 + 5, 1<<64 - 8}
	for k := range 64 {
		n := uint64(1) << k
		l = append(l, n-1, n, n+1, -n)
	}
	slices.Sort(l)
	return slices.Compact(l)
}

// bounds are edges of ints, and such as are others where they are cut to fewer bits.
func bounds() []int {
	l := []int{3, 10, -10, 1<<32 + 1, -1<<32 + 7, math.MinInt, math.MinInt + 1, math.MaxInt - 1, math.MaxInt}
	for k := range 62 {
		n := 1 << k
		l = append(l, n-1, n, n+1, -n, -n-1)
	}
	slices.Sort(l)
	return slices.Compact(l)
}

// written tells a number's bytes, by the library.
func written(n uint64) string {
	return string(binary.BigEndian.AppendUint64(nil, n))
}

// long tells a text of n bytes, each of which has its place's number.
func long(n int) string {
	b := make([]byte, n)
	for i := range b {
		b[i] = byte(i + i>>8)
	}
	return string(b)
}

// shown tells a text that isn't too long to be looked at.
func shown(s string) string {
	return strconv.Quote(s[:min(len(s), 40)]) + " of " + strconv.Itoa(len(s))
}

// holdState holds what a reader tells of itself; twice, as telling changes nothing.
func holdState(t *testing.T, what string, r *Reader, left int, done api.Errno) {
	t.Helper()
	for range 2 {
		if n := r.Left(); n != left {
			t.Fatalf("%s: Left: %d, want %d", what, n, left)
		}
		if e := r.Done(); e != done {
			t.Fatalf("%s: Done: error %d, want %d", what, e, done)
		}
	}
}

func holdNum(t *testing.T, what string, r *Reader, want uint64) {
	t.Helper()
	if n := r.Num(); n != want {
		t.Fatalf("%s: Num: %x, want %x", what, n, want)
	}
}

func holdBelow(t *testing.T, what string, r *Reader, bound, want int) {
	t.Helper()
	if n := r.Below(bound); n != want {
		t.Fatalf("%s: Below(%d): %d, want %d", what, bound, n, want)
	}
}

func holdText(t *testing.T, what string, r *Reader, want string) {
	t.Helper()
	if s := r.Text(); s != want {
		t.Fatalf("%s: Text: %s, want %s", what, shown(s), shown(want))
	}
}

// holdEnd holds that a reader which has met an error tells nothing any more, whatever is left, and that the error stays the first one.
func holdEnd(t *testing.T, what string, r *Reader, left int, met api.Errno) {
	t.Helper()
	holdState(t, what, r, left, met)
	for range 2 {
		holdNum(t, what+": further", r, 0)
		holdState(t, what+": behind Num", r, left, met)
		for _, bound := range []int{math.MinInt, -1, 0, 1, 10, math.MaxInt} {
			holdBelow(t, what+": further", r, bound, 0)
			holdState(t, what+": behind Below", r, left, met)
		}
		holdText(t, what+": further", r, "")
		holdState(t, what+": behind Text", r, left, met)
	}
}

// behind tells the error of a reader that has met none, by how much is left.
func behind(left int) api.Errno {
	if left > 0 {
		return api.ErrLong
	}
	return api.OK
}

// The document's example.
func TestExample(t *testing.T) {
	if s := Text("ab"); s != "\x00\x00\x00\x00\x00\x00\x00\x02\x61\x62" {
		t.Errorf("P13.1: the example: %x", s)
	}
}

// P13.1: a number has eight bytes, the highest first.
func TestNumWritten(t *testing.T) {
	for n, want := range map[uint64]string{
		0:                  "\x00\x00\x00\x00\x00\x00\x00\x00",
		1:                  "\x00\x00\x00\x00\x00\x00\x00\x01",
		0x0102030405060708: "\x01\x02\x03\x04\x05\x06\x07\x08",
		0xfedcba9876543210: "\xfe\xdc\xba\x98\x76\x54\x32\x10",
		math.MaxUint64:     "\xff\xff\xff\xff\xff\xff\xff\xff",
	} {
		if s := Num(n); s != want {
			t.Errorf("P13.1: Num(%x): %x", n, s)
		}
	}
	for _, n := range numbers() {
		if s := Num(n); s != written(n) {
			t.Errorf("P13.1: Num(%x): %x", n, s)
		}
	}
}

// P13.1: each byte at each place.
func TestNumEachByte(t *testing.T) {
	for place := range eight {
		for k := range 256 {
			b := make([]byte, eight)
			b[place] = byte(k)
			n := uint64(k) << (8 * (eight - 1 - place))
			if s := Num(n); s != string(b) {
				t.Fatalf("P13.1: Num(%x): %x", n, s)
			}
			holdNum(t, "P13.2: one byte", New(string(b)), n)
		}
	}
}

// P13.1: a text is its length in bytes and the bytes, however many and whatever they are.
func TestTextWritten(t *testing.T) {
	texts := []string{"", "a", "ä", "\x00", "\xff\xfe", "00000000", written(7), strings.Repeat("ä", 100)}
	for n := range 600 {
		texts = append(texts, long(n))
	}
	for _, n := range []int{api.MaxText - 1, api.MaxText, api.MaxText + 1, 1<<20 + 3} {
		texts = append(texts, long(n))
	}
	for _, s := range texts {
		if got := Text(s); got != written(uint64(len(s)))+s {
			t.Fatalf("P13.1: Text of %s: %s", shown(s), shown(got))
		}
		r := New(Text(s))
		holdState(t, "P13.2: nothing read", r, eight+len(s), api.ErrLong)
		holdText(t, "P13.2: what was written", r, s)
		holdState(t, "P13.2: all read", r, 0, api.OK)
	}
}

// P13.2, P13.3: a new reader has read nothing, and is its own.
func TestNew(t *testing.T) {
	for n := range 40 {
		a, b := New(long(n)), New(long(n))
		if a == nil || b == nil || a == b {
			t.Fatal("P13.2: New tells no reader, or the same one twice")
		}
		holdState(t, "P13.3: a new reader", a, n, behind(n))
		holdState(t, "P13.3: a new reader", b, n, behind(n))
	}
}

// P13.2: each number is read, alone and with more behind it, which is left.
func TestNum(t *testing.T) {
	for _, n := range numbers() {
		for _, more := range []int{0, 1, 7, 8, 9, 100} {
			r := New(written(n) + long(more))
			holdNum(t, "P13.2: a number", r, n)
			holdState(t, "P13.3: behind a number", r, more, behind(more))
		}
	}
}

// P13.2: of each length: numbers as long as eight bytes are left, then ErrShort, and what is left isn't read.
func TestNumEachLength(t *testing.T) {
	for n := range 60 {
		s := long(n)
		r := New(s)
		for at := 0; at+eight <= n; at += eight {
			holdNum(t, "P13.2: each length", r, binary.BigEndian.Uint64([]byte(s[at:])))
			holdState(t, "P13.3: each length", r, n-at-eight, behind(n-at-eight))
		}
		holdNum(t, "P13.2: too few are left", r, 0)
		holdEnd(t, "P13.2: too few are left", r, n%eight, api.ErrShort)
	}
}

// P13.2: of each number and each bound: the number where it is below the bound, else 0 and ErrForm; it is read in both.
func TestBelow(t *testing.T) {
	for _, n := range numbers() {
		for _, bound := range bounds() {
			r := New(written(n) + "0123456789")
			if bound >= 1 && n < uint64(bound) {
				holdBelow(t, "P13.2: below it", r, bound, int(n))
				holdState(t, "P13.2: below it", r, 10, api.ErrLong)
				continue
			}
			holdBelow(t, "P13.2: not below it", r, bound, 0)
			holdState(t, "P13.2: not below it", r, 10, api.ErrForm)
		}
	}
}

// P13.2: the last number below a bound, and the bound itself; 1 is the least bound that has one.
func TestBelowEdge(t *testing.T) {
	for _, bound := range []int{1, 2, 3, 12, 16, 255, 256, 257, 1 << 31, 1 << 32, 1<<32 + 1, math.MaxInt} {
		r := New(written(uint64(bound)-1) + written(0) + written(uint64(bound)) + "xx")
		holdBelow(t, "P13.2: the last one", r, bound, bound-1)
		holdBelow(t, "P13.2: the first one", r, bound, 0)
		holdState(t, "P13.2: the last and the first one", r, 10, api.ErrLong)
		holdBelow(t, "P13.2: the bound", r, bound, 0)
		holdEnd(t, "P13.2: the bound", r, 2, api.ErrForm)
	}
	for _, bound := range []int{0, -1, -2, math.MinInt, math.MinInt32} {
		r := New(written(0) + written(1))
		holdBelow(t, "P13.2: no bound", r, bound, 0)
		holdEnd(t, "P13.2: no bound", r, 8, api.ErrForm)
	}
}

// P13.2: ErrShort ahead of ErrForm, whatever the bound: a number that isn't there isn't held against it.
func TestBelowShort(t *testing.T) {
	for n := range eight {
		for _, bound := range bounds() {
			r := New(long(n))
			holdBelow(t, "P13.2: too few are left", r, bound, 0)
			holdState(t, "P13.2: too few are left", r, n, api.ErrShort)
		}
		r := New(long(n))
		r.Below(0)
		holdEnd(t, "P13.2: too few are left", r, n, api.ErrShort)
	}
}

// P13.2: a text of each length, with each number of bytes there: it is told where there are enough; else ErrShort, and the length alone is read.
func TestTextEachLength(t *testing.T) {
	for n := range 40 {
		for there := range 45 {
			s := long(there)
			r := New(written(uint64(n)) + s)
			if n <= there {
				holdText(t, "P13.2: enough are left", r, s[:n])
				holdState(t, "P13.2: enough are left", r, there-n, behind(there-n))
				continue
			}
			holdText(t, "P13.2: too few are left", r, "")
			holdEnd(t, "P13.2: too few are left", r, there, api.ErrShort)
		}
	}
}

// P13.2: ErrShort of texts whose length itself isn't there whole.
func TestTextWithoutLength(t *testing.T) {
	for n := range eight {
		for _, s := range []string{long(n), written(0)[:n], written(math.MaxUint64)[:n]} {
			r := New(s)
			holdText(t, "P13.2: no length", r, "")
			holdEnd(t, "P13.2: no length", r, n, api.ErrShort)
		}
	}
}

// P13.2: ErrShort of each length beyond what is left, also of one that is no int, or would be a small one where it is cut, or with the length's own bytes on it.
func TestTextGreatLength(t *testing.T) {
	for _, there := range []int{0, 1, 2, 5, 7, 8, 9, 16, 300} {
		for _, n := range numbers() {
			if n <= uint64(there) {
				continue
			}
			r := New(written(n) + long(there))
			holdText(t, "P13.2: a great length", r, "")
			holdState(t, "P13.2: a great length", r, there, api.ErrShort)
		}
	}
	r := New(written(math.MaxUint64) + written(1) + "a")
	holdText(t, "P13.2: the greatest length", r, "")
	holdEnd(t, "P13.2: the greatest length", r, 9, api.ErrShort)
}

// P13.2: empty texts are read like others, and are no errors.
func TestEmptyTexts(t *testing.T) {
	r := New(strings.Repeat(Text(""), 5))
	for k := range 5 {
		holdState(t, "P13.2: empty texts", r, (5-k)*eight, api.ErrLong)
		holdText(t, "P13.2: an empty text", r, "")
	}
	holdState(t, "P13.2: empty texts", r, 0, api.OK)
	holdText(t, "P13.2: no text", r, "")
	holdEnd(t, "P13.2: no text", r, 0, api.ErrShort)
}

// P13.2: the first error stays, whatever the others would be, and nothing is read behind it though it were there.
func TestFirstError(t *testing.T) {
	tail := written(1) + written(0) + Text("abc") + Text("")
	for what, first := range map[string]struct {
		ahead string
		call  func(r *Reader)
		left  int // of what is ahead
		e     api.Errno
	}{
		"a number that is too great": {written(10), func(r *Reader) { r.Below(10) }, 0, api.ErrForm},
		"no bound":                   {written(0), func(r *Reader) { r.Below(0) }, 0, api.ErrForm},
		"a long text":                {written(1000), func(r *Reader) { r.Text() }, 0, api.ErrShort},
		"a text that ends early":     {written(70) + "x", func(r *Reader) { r.Text() }, 1, api.ErrShort},
	} {
		r := New(first.ahead + tail)
		first.call(r)
		holdEnd(t, "P13.2: "+what, r, first.left+len(tail), first.e)
	}
}

// P13.3: Done tells how it stands at any time, and reading goes on behind it: ErrLong isn't an error that was met.
func TestDoneBetween(t *testing.T) {
	r := New(written(7) + Text("abc") + written(9))
	holdState(t, "P13.3: at the beginning", r, 27, api.ErrLong)
	holdNum(t, "P13.3: behind ErrLong", r, 7)
	holdState(t, "P13.3: behind a number", r, 19, api.ErrLong)
	holdText(t, "P13.3: behind ErrLong", r, "abc")
	holdState(t, "P13.3: behind a text", r, 8, api.ErrLong)
	holdBelow(t, "P13.3: behind ErrLong", r, 10, 9)
	holdState(t, "P13.3: at the end", r, 0, api.OK)
	holdNum(t, "P13.3: behind the end", r, 0)
	holdEnd(t, "P13.3: behind the end", r, 0, api.ErrShort)
}

// P13.3: the error that was met ahead of ErrLong, where some are left.
func TestDoneOrder(t *testing.T) {
	for more := range 20 {
		r := New(written(5) + long(more))
		r.Below(5)
		holdState(t, "P13.3: ErrForm", r, more, api.ErrForm)
		r = New(written(uint64(more)+1) + long(more))
		r.Text()
		holdState(t, "P13.3: ErrShort", r, more, api.ErrShort)
	}
}

// P13.3: a nil reader: ErrNil, 0, empty texts, whatever was asked.
func TestNil(t *testing.T) {
	var r *Reader
	holdEnd(t, "P13.3: a nil reader", r, 0, api.ErrNil)
	for _, bound := range bounds() {
		holdBelow(t, "P13.3: a nil reader", r, bound, 0)
	}
	holdState(t, "P2: a new one behind calls of a nil one", New(""), 0, api.OK)
}

// P2: what one reader reads, another one of the same text hasn't read; nor has it met its errors.
func TestApart(t *testing.T) {
	s := Text("abc") + written(20)
	a, b := New(s), New(s)
	holdText(t, "P2: the first", a, "abc")
	holdState(t, "P2: the second", b, 19, api.ErrLong)
	holdBelow(t, "P2: the first", a, 20, 0)
	c := New(s)
	holdText(t, "P2: the second", b, "abc")
	holdState(t, "P2: the third", c, 19, api.ErrLong)
	holdBelow(t, "P2: the second", b, 21, 20)
	holdEnd(t, "P2: the first", a, 0, api.ErrForm)
	holdState(t, "P2: the second", b, 0, api.OK)
	holdNum(t, "P2: the third", c, 3)
}

// Rule 6: what is told is as it was, whatever is read behind it.
func TestTextIsItsOwn(t *testing.T) {
	b := []byte(Text("abc") + Text("defg"))
	r := New(string(b))
	clear(b)
	first, second := r.Text(), r.Text()
	r.Text()
	if first != "abc" || second != "defg" {
		t.Errorf("rule 6: what was told has become %q and %q", first, second)
	}
}

// chance tells numbers that look like chance, the same in each run.
type chance uint64

func (c *chance) next() uint64 {
	*c = *c*6364136223846793005 + 1442695040888963407
	return uint64(*c) ^ uint64(*c)>>29
}

func (c *chance) below(n int) int { return int(c.next() >> 33 % uint64(n)) }

// some tells a text of which most is what readers like, and some isn't.
func (c *chance) some() string {
	var b strings.Builder
	for range c.below(12) {
		switch c.below(5) {
		case 0:
			b.WriteString(written(c.next() >> c.below(64)))
		case 1:
			b.WriteString(written(uint64(c.below(5))))
		case 2:
			b.WriteString(long(c.below(10)))
		default:
			s := long(c.below(30))
			b.WriteString(written(uint64(len(s))) + s)
		}
	}
	return b.String()
}

// model is the document's sentences on readers, over the whole text and a place in it.
type model struct {
	text string
	at   int
	met  []api.Errno // all that were met, in their order
}

func (m *model) num() uint64 {
	if len(m.met) > 0 || len(m.text)-m.at < eight {
		m.met = append(m.met, api.ErrShort)
		return 0
	}
	m.at += eight
	return binary.BigEndian.Uint64([]byte(m.text[m.at-eight : m.at]))
}

func (m *model) below(bound int) int {
	n := m.num()
	if bound < 1 || n > math.MaxInt || int(n) >= bound {
		m.met = append(m.met, api.ErrForm)
		return 0
	}
	return int(n)
}

func (m *model) part() string {
	n := m.num()
	if len(m.met) > 0 || n > math.MaxInt || int(n) > len(m.text)-m.at {
		m.met = append(m.met, api.ErrShort)
		return ""
	}
	m.at += int(n)
	return m.text[m.at-int(n) : m.at]
}

func (m *model) done() api.Errno {
	if len(m.met) > 0 {
		return m.met[0]
	}
	return behind(len(m.text) - m.at)
}

// P13.2, P13.3: long rows of calls, held against the model behind each; and P2: readers that read by turns have nothing to do with one another.
func TestRowsOfCalls(t *testing.T) {
	c := chance(13)
	for range 4000 {
		var readers [3]*Reader
		var models [3]model
		for i := range readers {
			models[i].text = c.some()
			readers[i] = New(models[i].text)
		}
		for range 24 {
			i := c.below(3)
			r, m := readers[i], &models[i]
			switch c.below(5) {
			case 0:
				holdNum(t, "P13.2: a row of calls", r, m.num())
			case 1:
				bound := int(c.next()>>c.below(64)) - c.below(2)
				holdBelow(t, "P13.2: a row of calls", r, bound, m.below(bound))
			default:
				holdText(t, "P13.2: a row of calls", r, m.part())
			}
			for j, r := range readers {
				holdState(t, "P13.3: a row of calls", r, len(models[j].text)-models[j].at, models[j].done())
			}
		}
	}
}

// part is something that was written: a number, or a text.
type part struct {
	kind int // 0 a number, 1 one below a bound, 2 a text
	n    uint64
	s    string
}

// P13.1 to P13.3: whatever is written one behind the other is read again, and nothing is left; with a byte less ErrShort, with one more ErrLong.
func TestWrittenAndRead(t *testing.T) {
	c := chance(31)
	for range 500 {
		var parts []part
		var b strings.Builder
		for range 1 + c.below(30) {
			p := part{kind: c.below(3), n: c.next() >> (1 + c.below(63)), s: long(c.below(300))}
			if p.kind == 2 {
				b.WriteString(Text(p.s))
			} else {
				b.WriteString(Num(p.n))
			}
			parts = append(parts, p)
		}
		s := b.String()
		for _, x := range []struct {
			text string
			want api.Errno
		}{{s, api.OK}, {s[:len(s)-1], api.ErrShort}, {s + "\x00", api.ErrLong}} {
			r := New(x.text)
			readAll(t, r, parts, x.want == api.ErrShort)
			if e := r.Done(); e != x.want {
				t.Fatalf("P13.3: %d parts: Done: error %d, want %d", len(parts), e, x.want)
			}
		}
	}
}

// readAll reads the parts, and holds them against what is read; but for the last one, if it lacks a byte.
func readAll(t *testing.T, r *Reader, parts []part, lacks bool) {
	t.Helper()
	for i, p := range parts {
		if lacks && i == len(parts)-1 {
			p.n, p.s = 0, ""
		}
		switch p.kind {
		case 0:
			holdNum(t, "P13.2: what was written", r, p.n)
		case 1:
			holdBelow(t, "P13.2: what was written", r, math.MaxInt, int(min(p.n, math.MaxInt-1)))
		default:
			holdText(t, "P13.2: what was written", r, p.s)
		}
	}
}

// Ways, layer 13: a number's two words are an array, the higher word first.
func TestTwoWords(t *testing.T) {
	for _, n := range numbers() {
		two := [2]uint32{uint32(n >> 32), uint32(n)}
		if got := joined(two); got != n {
			t.Errorf("Ways: the number of %x is %x, want %x", two, got, n)
		}
	}
}

// Ways, layer 13: and Num reads them as such.
func TestReadAsArray(t *testing.T) {
	file, err := parser.ParseFile(token.NewFileSet(), "codec.go", nil, 0)
	if err != nil {
		t.Fatal(err)
	}
	found := false
	for _, d := range file.Decls {
		f, ok := d.(*ast.FuncDecl)
		if !ok || f.Name.Name != "Num" || f.Recv == nil {
			continue
		}
		ast.Inspect(f, func(n ast.Node) bool {
			a, ok := n.(*ast.ArrayType)
			if !ok {
				return true
			}
			length, whole := a.Len.(*ast.BasicLit)
			word, plain := a.Elt.(*ast.Ident)
			found = found || whole && plain && length.Value == "2" && word.Name == "uint32"
			return true
		})
	}
	if !found {
		t.Error("Ways: Num doesn't read its two words as an array")
	}
}
