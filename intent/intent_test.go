package intent

import (
	"crypto/sha256"
	"encoding/binary"
	"go/ast"
	"go/parser"
	"go/token"
	"math"
	"slices"
	"strconv"
	"strings"
	"testing"

	"cofferdam/api"
	"cofferdam/disk"
)

// The document's numbers: how many writes a log has at most, from where to where they may go, and how many bytes each has at most.
const (
	mostWrites = 95
	firstAt    = 100
	lastAt     = 139
	mostBytes  = 2032
)

// edges are ints that are no place, at the edges of their kind, and such as are a place where they are cut to fewer bits or lose their sign.
var edges = []int{math.MinInt, math.MinInt + 1, math.MinInt + 100, math.MinInt32, -1 << 32, -1<<32 + 100, -256 + 100, -139, -100, -2, -1, 0, 1, 2, 97, 98, 99, 140, 141, 142, 255, 256, 256 + 100, 1<<16 + 139, 1<<32 - 1, 1 << 32, 1<<32 + 100, 1<<32 + 139, 1<<62 + 100, math.MaxInt - 1, math.MaxInt}

// written tells numbers as bytes, by the library.
func written(l ...uint64) string {
	var b []byte
	for _, n := range l {
		b = binary.BigEndian.AppendUint64(b, n)
	}
	return string(b)
}

// long tells a text of n bytes, unlike ones.
func long(n int) string {
	b := make([]byte, n)
	for i := range b {
		b[i] = byte(i + i>>8 + n)
	}
	return string(b)
}

// cellOf tells the cell of a write to a place, whatever that is.
func cellOf(at uint64, s string) string {
	return written(at, uint64(len(s))) + s
}

// cellsOf tells the cells of a log as the document lists them.
func cellsOf(l []Write) []string {
	cells := []string{written(uint64(len(l)))}
	for _, w := range l {
		cells = append(cells, cellOf(uint64(w.At), w.Cell))
	}
	return cells
}

// digestOf tells the digest of cells as the document does, by the library's own.
func digestOf(cells []string) string {
	h := sha256.New()
	h.Write([]byte{2})
	for _, c := range cells {
		h.Write([]byte(written(uint64(len(c))) + c))
	}
	return string(h.Sum(nil))
}

// faultOf tells the error of Put, by the document's sentence.
func faultOf(l []Write) api.Errno {
	if len(l) > mostWrites {
		return api.ErrFull
	}
	for _, w := range l {
		if w.At < firstAt || w.At > lastAt {
			return api.ErrArg
		}
		if len(w.Cell) > mostBytes {
			return api.ErrLong
		}
	}
	return api.OK
}

// sizeOf tells how many cells a log has with that first one, by looking through all that there are; 0 if it is none of these.
func sizeOf(first string) int {
	for n := range mostWrites + 1 {
		if first == written(uint64(n)) {
			return n + 1
		}
	}
	return 0
}

// told tells what Get answers, by the document's sentence: each cell is held against the one that its own write has.
func told(cells []string, digest string) ([]Write, api.Errno) {
	if len(cells) == 0 || sizeOf(cells[0]) == 0 {
		return nil, api.ErrForm
	}
	n := sizeOf(cells[0])
	if len(cells) < n {
		return nil, api.ErrShort
	}
	if digest != digestOf(cells[:n]) {
		return nil, api.ErrSum
	}
	var l []Write
	for _, c := range cells[1:n] {
		if len(c) < 16 || len(c) > 16+mostBytes {
			return nil, api.ErrForm
		}
		at := binary.BigEndian.Uint64([]byte(c))
		if at < firstAt || at > lastAt || c != cellOf(at, c[16:]) {
			return nil, api.ErrForm
		}
		l = append(l, Write{At: int(at), Cell: c[16:]})
	}
	return l, api.OK
}

// logOf tells a log of n writes, unlike ones.
func logOf(n int) []Write {
	var l []Write
	for i := range n {
		l = append(l, Write{At: firstAt + i*7%40, Cell: long(i * 3 % 50)})
	}
	return l
}

// withWrite tells the log with another write at a place.
func withWrite(l []Write, i int, w Write) []Write {
	l = slices.Clone(l)
	l[i] = w
	return l
}

// withCell tells the cells with another one at a place.
func withCell(cells []string, i int, c string) []string {
	cells = slices.Clone(cells)
	cells[i] = c
	return cells
}

// guards stand behind the length of lists that are handed in, where they would make a difference if they were read.
var (
	writeGuards = []Write{{At: -7, Cell: "guard"}, {At: 100, Cell: "more"}}
	cellGuards  = []string{"guard", written(100, 0), ""}
)

// guardedLog and guardedCells tell the list with guards behind it.
func guardedLog(l []Write) []Write {
	return append(append([]Write{}, l...), writeGuards...)[:len(l)]
}

func guardedCells(cells []string) []string {
	return append(append([]string{}, cells...), cellGuards...)[:len(cells)]
}

// brief tells cells that aren't too many to be looked at.
func brief(cells []string) string {
	s := strconv.Itoa(len(cells)) + " cells:"
	for _, c := range cells[:min(len(cells), 6)] {
		s += " " + strconv.Quote(c[:min(len(c), 24)]) + " of " + strconv.Itoa(len(c))
	}
	return s
}

// holdPut holds Put of a log against the document, twice, with what was answered first spoilt in between; and Get of what it answers.
func holdPut(t *testing.T, what string, was []Write) {
	t.Helper()
	want := faultOf(was)
	l := guardedLog(was)
	for range 2 {
		cells, d, e := Put(l)
		if e != want {
			t.Fatalf("P15.1: %s: Put of %d writes: error %d, want %d", what, len(was), e, want)
		}
		if !slices.Equal(l, was) || !slices.Equal(l[len(l):len(l)+len(writeGuards)], writeGuards) {
			t.Fatalf("P15.1: %s: rule 4: what was handed in was changed", what)
		}
		if want != api.OK {
			if len(cells) > 0 || d != "" {
				t.Fatalf("P15.1: %s: rule 2: beside error %d %s, digest %x", what, e, brief(cells), d)
			}
			continue
		}
		if !slices.Equal(cells, cellsOf(was)) {
			t.Fatalf("P15.1: %s: %s, want %s", what, brief(cells), brief(cellsOf(was)))
		}
		if d != digestOf(cellsOf(was)) {
			t.Fatalf("P15.1: %s: digest %x, want %x", what, d, digestOf(cellsOf(was)))
		}
		holdGet(t, what, cells, d)
		spoilCells(cells)
	}
}

// spoilCells does to a list of cells whatever can be done, also behind its length.
func spoilCells(cells []string) {
	cells = cells[:cap(cells)]
	for i := range cells {
		cells[i] = "spoilt"
	}
}

// spoilLog does likewise to writes.
func spoilLog(l []Write) {
	l = l[:cap(l)]
	for i := range l {
		l[i] = Write{At: -77, Cell: "spoilt"}
	}
}

// holdGet holds Get of cells against the document, twice, with what was answered first spoilt in between.
func holdGet(t *testing.T, what string, was []string, digest string) {
	t.Helper()
	want, fault := told(was, digest)
	cells := guardedCells(was)
	for range 2 {
		l, e := Get(cells, digest)
		if e != fault {
			t.Fatalf("P15.3: %s: Get of %s: error %d, want %d", what, brief(was), e, fault)
		}
		if !slices.Equal(l, want) {
			t.Fatalf("P15.3: %s: Get of %s: beside error %d: %#v, want %#v", what, brief(was), e, l, want)
		}
		if !slices.Equal(cells, was) || !slices.Equal(cells[len(cells):len(cells)+len(cellGuards)], cellGuards) {
			t.Fatalf("P15.3: %s: rule 4: what was handed in was changed", what)
		}
		spoilLog(l)
	}
}

// holdError holds that Get answers just that error, as the document's sentence does too, and no writes beside it.
func holdError(t *testing.T, what string, cells []string, digest string, want api.Errno) {
	t.Helper()
	if l, e := Get(cells, digest); e != want || len(l) > 0 {
		t.Fatalf("P15.3: %s: Get of %s: error %d, want %d, %d writes", what, brief(cells), e, want, len(l))
	}
	holdGet(t, what, cells, digest)
}

// holdLogged holds that Get answers just these writes.
func holdLogged(t *testing.T, what string, cells []string, digest string, want []Write) {
	t.Helper()
	if l, e := Get(cells, digest); e != api.OK || !slices.Equal(l, want) {
		t.Fatalf("P15.3: %s: Get of %s: error %d, %#v, want %#v", what, brief(cells), e, l, want)
	}
	holdGet(t, what, cells, digest)
}

// holdRefused holds that Put answers just that error, as the document's sentence does too, and nothing beside it.
func holdRefused(t *testing.T, what string, l []Write, want api.Errno) {
	t.Helper()
	if cells, d, e := Put(l); e != want || len(cells) > 0 || d != "" {
		t.Fatalf("P15.1: %s: error %d, want %d; %s, digest %x", what, e, want, brief(cells), d)
	}
	holdPut(t, what, l)
}

// holdTaken holds that Put takes a log.
func holdTaken(t *testing.T, what string, l []Write) {
	t.Helper()
	if cells, d, e := Put(l); e != api.OK || len(cells) != len(l)+1 || len(d) != api.Digest {
		t.Fatalf("P15.1: %s: error %d; %s, digest %x", what, e, brief(cells), d)
	}
	holdPut(t, what, l)
}

// holdSize holds what Size answers: 0 stands for ErrForm.
func holdSize(t *testing.T, what, first string, want int) {
	t.Helper()
	fault := api.OK
	if want == 0 {
		fault = api.ErrForm
	}
	for range 2 {
		if n, e := Size(first); n != want || e != fault {
			t.Fatalf("P15.2: %s: Size of %x: %d, error %d, want %d, error %d", what, first[:min(len(first), 40)], n, e, want, fault)
		}
	}
}

// The limits are the document's.
func TestLimits(t *testing.T) {
	if api.MaxLog-1 != mostWrites || api.TreeAt != firstAt || api.Cells-1 != lastAt || api.MaxCell-16 != mostBytes {
		t.Error("the limits of api aren't those that are tested")
	}
}

// The document's example.
func TestExample(t *testing.T) {
	noughts := "\x00\x00\x00\x00\x00\x00\x00\x00"
	for _, l := range [][]Write{nil, {}} {
		cells, d, e := Put(l)
		if e != api.OK || !slices.Equal(cells, []string{noughts}) {
			t.Errorf("P15.1: the example: error %d, %s", e, brief(cells))
		}
		want := sha256.Sum256([]byte("\x02" + "\x00\x00\x00\x00\x00\x00\x00\x08" + noughts))
		if d != string(want[:]) {
			t.Errorf("P15.1: the example: digest %x, want %x", d, want)
		}
	}
}

// P15.1: Empty is the digest of no writes, each time.
func TestEmpty(t *testing.T) {
	for range 3 {
		d := Empty()
		if d != digestOf([]string{written(0)}) || len(d) != api.Digest {
			t.Errorf("P15.1: Empty: %x", d)
		}
		if _, of, e := Put(nil); e != api.OK || of != d {
			t.Errorf("P15.1: Empty: %x, and Put of no writes: error %d, %x", d, e, of)
		}
		if l, e := Get([]string{written(0)}, d); e != api.OK || len(l) != 0 {
			t.Errorf("P15.3: Get with Empty: error %d, %#v", e, l)
		}
		if _, _, e := Put(logOf(5)); e != api.OK {
			t.Errorf("P15.1: error %d", e)
		}
	}
}

// P15.1: the bytes of a log, written out.
func TestPutBytes(t *testing.T) {
	want := []string{
		"\x00\x00\x00\x00\x00\x00\x00\x03",
		"\x00\x00\x00\x00\x00\x00\x00\x64" + "\x00\x00\x00\x00\x00\x00\x00\x00",
		"\x00\x00\x00\x00\x00\x00\x00\x8b" + "\x00\x00\x00\x00\x00\x00\x00\x03" + "abc",
		"\x00\x00\x00\x00\x00\x00\x00\x78" + "\x00\x00\x00\x00\x00\x00\x00\x02" + "\xff\x00",
	}
	all := "\x02" +
		"\x00\x00\x00\x00\x00\x00\x00\x08" + want[0] +
		"\x00\x00\x00\x00\x00\x00\x00\x10" + want[1] +
		"\x00\x00\x00\x00\x00\x00\x00\x13" + want[2] +
		"\x00\x00\x00\x00\x00\x00\x00\x12" + want[3]
	digest := sha256.Sum256([]byte(all))
	l := []Write{{At: 100}, {At: 139, Cell: "abc"}, {At: 120, Cell: "\xff\x00"}}
	cells, d, e := Put(l)
	if e != api.OK || !slices.Equal(cells, want) || d != string(digest[:]) {
		t.Errorf("P15.1: error %d, %s, digest %x", e, brief(cells), d)
	}
	holdLogged(t, "written out", want, string(digest[:]), l)
}

// P15.1: every number of writes, up to the greatest, and more.
func TestPutNumbers(t *testing.T) {
	for n := range mostWrites + 1 {
		holdTaken(t, strconv.Itoa(n)+" writes", logOf(n))
	}
	for _, n := range []int{96, 97, 98, 127, 128, 191, 192, 255, 256, 256 + 95, 1 << 10, 1 << 16, 1<<16 + 3} {
		holdRefused(t, strconv.Itoa(n)+" writes", logOf(n), api.ErrFull)
	}
}

// P15.1: every place, alone, and the first, midmost or last of some writes.
func TestPutPlaces(t *testing.T) {
	places := slices.Clone(edges)
	for at := -300; at < 700; at++ {
		places = append(places, at)
	}
	for _, at := range places {
		w := Write{At: at, Cell: "abc"}
		what := "At " + strconv.Itoa(at)
		logs := [][]Write{{w}, withWrite(logOf(5), 0, w), withWrite(logOf(5), 2, w), withWrite(logOf(5), 4, w)}
		for _, l := range logs {
			if at >= firstAt && at <= lastAt {
				holdTaken(t, what, l)
			} else {
				holdRefused(t, what, l, api.ErrArg)
			}
		}
	}
}

// P15.1: every length of a cell, alone, and some lengths in the first, midmost or last place.
func TestPutLengths(t *testing.T) {
	for n := range mostBytes + 40 {
		what := strconv.Itoa(n) + " bytes"
		l := []Write{{At: firstAt + n%40, Cell: long(n)}}
		if n <= mostBytes {
			holdTaken(t, what, l)
		} else {
			holdRefused(t, what, l, api.ErrLong)
		}
	}
	for _, n := range []int{mostBytes - 1, mostBytes, mostBytes + 1, 2039, 2040, 2041, api.MaxCell - 1, api.MaxCell, api.MaxCell + 1, 4096, api.MaxText, api.MaxText + 5, 1<<20 + 3} {
		for _, i := range []int{0, 2, 4} {
			l := withWrite(logOf(5), i, Write{At: lastAt, Cell: long(n)})
			if n <= mostBytes {
				holdTaken(t, strconv.Itoa(n)+" bytes", l)
			} else {
				holdRefused(t, strconv.Itoa(n)+" bytes", l, api.ErrLong)
			}
		}
	}
}

// P15.1: a cell may have whatever bytes, also such as are a cell of the log themselves; and one place may be written twice.
func TestPutAnything(t *testing.T) {
	texts := []string{"\x00", strings.Repeat("\x00", mostBytes), strings.Repeat("\xff", mostBytes), strings.Repeat("ä", mostBytes/2), written(1), cellOf(100, "abc"), cellOf(100, cellOf(100, "")), written(0, 1, 2)}
	for _, s := range texts {
		holdTaken(t, "bytes", []Write{{At: 120, Cell: s}})
	}
	var l []Write
	for i := range mostWrites {
		l = append(l, Write{At: 110, Cell: texts[i%len(texts)]})
	}
	holdTaken(t, "one place", l)
	for k := range 256 {
		holdTaken(t, "one byte", []Write{{At: 130, Cell: string([]byte{byte(k)})}})
	}
}

// P15.1: of several errors, too many writes is the first; then it is the first write that counts; of one write, its place.
func TestPutSeveral(t *testing.T) {
	none, tooLong := Write{At: 99, Cell: "a"}, Write{At: 100, Cell: long(mostBytes + 1)}
	both := Write{At: 140, Cell: long(mostBytes + 1)}
	holdRefused(t, "no place and too long", []Write{both}, api.ErrArg)
	holdRefused(t, "too long, then no place", []Write{tooLong, none}, api.ErrLong)
	holdRefused(t, "no place, then too long", []Write{none, tooLong}, api.ErrArg)
	holdRefused(t, "too long, then both", []Write{tooLong, both}, api.ErrLong)
	holdRefused(t, "both, then too long", []Write{both, tooLong}, api.ErrArg)
	for i := range 7 {
		for j := range 7 {
			l := withWrite(logOf(7), i, none)
			l = withWrite(l, j, tooLong)
			want := api.ErrArg
			if j <= i {
				want = api.ErrLong
			}
			holdRefused(t, "one of each", l, want)
		}
	}
	for _, n := range []int{96, 97, 300} {
		for _, w := range []Write{none, tooLong, both} {
			for _, i := range []int{0, 50, 95, n - 1} {
				holdRefused(t, "too many, and a write that may not be logged", withWrite(logOf(n), i, w), api.ErrFull)
			}
			holdRefused(t, "too many that may not be logged", slices.Repeat([]Write{w}, n), api.ErrFull)
		}
		holdRefused(t, "too many of nothing", make([]Write, n), api.ErrFull)
	}
	for _, i := range []int{0, 50, 94} {
		holdRefused(t, "no place among the most", withWrite(logOf(mostWrites), i, none), api.ErrArg)
		holdRefused(t, "too long among the most", withWrite(logOf(mostWrites), i, tooLong), api.ErrLong)
	}
}

// P15.1: the greatest log has as many cells as a disk's log, and each fits a cell of a disk.
func TestPutFits(t *testing.T) {
	var l []Write
	for i := range mostWrites {
		l = append(l, Write{At: firstAt + i%40, Cell: long(mostBytes)})
	}
	cells, _, e := Put(l)
	if e != api.OK || len(cells) != api.MaxLog || api.LogAt+len(cells) > api.TreeAt {
		t.Fatalf("P15.1: error %d, %d cells", e, len(cells))
	}
	d := disk.New(api.Cells)
	for i, c := range cells {
		if len(c) > api.MaxCell {
			t.Errorf("P15.1: a cell of %d bytes", len(c))
		}
		if e := d.Write(api.LogAt+i, c); e != api.OK {
			t.Errorf("P15.1: a disk answers error %d of a cell", e)
		}
	}
	holdTaken(t, "the greatest log", l)
}

// P15.1: unlike logs have unlike cells and digests, also where the same bytes stand in other cells.
func TestPutUnlike(t *testing.T) {
	logs := [][]Write{nil, {{At: 100}}, {{At: 101}}, {{At: 100}, {At: 100}}, {{At: 100, Cell: "a"}, {At: 100, Cell: "b"}}, {{At: 100, Cell: "b"}, {At: 100, Cell: "a"}}, {{At: 100, Cell: "ab"}, {At: 100}}, {{At: 100}, {At: 100, Cell: "ab"}}, {{At: 100, Cell: cellOf(100, "")}}, {{At: 101, Cell: "ab"}, {At: 100}}}
	seen := map[string]int{}
	for i, l := range logs {
		_, d, e := Put(l)
		if j, ok := seen[d]; ok || e != api.OK {
			t.Errorf("P15.1: logs %d and %d have one digest, error %d", i, j, e)
		}
		seen[d] = i
		holdPut(t, "unlike", l)
	}
}

// P15.2: every number that a log may have, and others.
func TestSizeNumbers(t *testing.T) {
	for n := range 1 << 12 {
		want := n + 1
		if n > mostWrites {
			want = 0
		}
		holdSize(t, "a number", written(uint64(n)), want)
	}
	for k := 7; k < 64; k++ {
		n := uint64(1) << k
		for _, m := range []uint64{n - 1, n, n + 1, n + 95, -n, -n + 95} {
			holdSize(t, "a great number", written(m), 0)
		}
	}
	for _, n := range []uint64{math.MaxInt64, math.MaxInt64 + 1, 1<<63 + 5, math.MaxUint64, math.MaxUint64 - 1} {
		holdSize(t, "no int", written(n), 0)
	}
}

// P15.2: each byte at each place.
func TestSizeBytes(t *testing.T) {
	for place := range 8 {
		for k := range 256 {
			b := make([]byte, 8)
			b[place] = byte(k)
			holdSize(t, "a byte", string(b), sizeOf(string(b)))
		}
	}
}

// P15.2: a number has eight bytes, neither fewer nor more.
func TestSizeLengths(t *testing.T) {
	for _, n := range []uint64{0, 1, 50, 95, 96, 1 << 40} {
		for k := range 8 {
			holdSize(t, "fewer bytes", written(n)[:k], 0)
			holdSize(t, "fewer bytes", written(n)[8-k:], 0)
		}
		for k := 1; k < 40; k++ {
			holdSize(t, "more bytes", written(n)+strings.Repeat("\x00", k), 0)
			holdSize(t, "bytes ahead", strings.Repeat("\x00", k)+written(n), 0)
		}
		holdSize(t, "two numbers", written(n, n), 0)
	}
	holdSize(t, "none", "", 0)
	holdSize(t, "digits", "00000001", 0)
	holdSize(t, "the lowest first", "\x05\x00\x00\x00\x00\x00\x00\x00", 0)
	holdSize(t, "a cell", long(api.MaxCell), 0)
	holdSize(t, "a long text", strings.Repeat("\x00", 1<<20), 0)
}

// P15.3: the writes of logs of every length, with their cells alone, and with further ones, whatever these are.
func TestGet(t *testing.T) {
	for n := range mostWrites + 1 {
		l := logOf(n)
		cells := cellsOf(l)
		d := digestOf(cells)
		holdLogged(t, "its cells", cells, d, l)
		for _, more := range [][]string{{""}, {"more"}, {cellOf(100, "")}, {cellOf(99, "")}, {written(1), cellOf(100, "x")}, {long(5000)}, make([]string, 300), cells} {
			holdLogged(t, "further cells", append(slices.Clone(cells), more...), d, l)
		}
	}
}

// P15.3: fewer cells than the first one tells, whatever the digest is and the others are; what lies behind the list's length isn't read.
func TestGetFewer(t *testing.T) {
	for _, n := range []int{0, 1, 2, 3, 17, 94, 95} {
		cells := cellsOf(logOf(n))
		d := digestOf(cells)
		for k := 1; k <= n; k++ {
			holdError(t, "fewer cells", cells[:k], d, api.ErrShort)
			holdError(t, "fewer cells, and their digest", cells[:k], digestOf(cells[:k]), api.ErrShort)
			holdError(t, "fewer cells, no digest", cells[:k], "", api.ErrShort)
		}
		for k := 2; k <= n; k++ {
			holdError(t, "fewer cells, one bad", withCell(cells[:k], k-1, "bad"), d, api.ErrShort)
		}
		for _, none := range [][]string{nil, {}, cells[:0]} {
			holdError(t, "no cells", none, d, api.ErrForm)
			holdError(t, "no cells, no digest", none, "", api.ErrForm)
			holdError(t, "no cells, and their digest", none, digestOf(nil), api.ErrForm)
		}
	}
}

// P15.3: a first cell that Size refuses, whatever else there is.
func TestGetFirst(t *testing.T) {
	bad := []string{"", "\x00", written(0)[:7], written(0) + "\x00", written(96), written(97), written(256), written(1 << 32), written(1<<32 + 2), written(1 << 63), written(1<<63 + 2), written(math.MaxUint64), written(2, 2), "\x02" + written(0)[:7], long(3000)}
	for _, first := range bad {
		for _, n := range []int{0, 1, 2, 95} {
			cells := withCell(cellsOf(logOf(n)), 0, first)
			holdError(t, "a first cell", cells, digestOf(cells), api.ErrForm)
			holdError(t, "a first cell, another digest", cells, "", api.ErrForm)
			holdError(t, "a first cell alone", cells[:1], digestOf(cells[:1]), api.ErrForm)
		}
	}
	many := withCell(cellsOf(logOf(200)), 0, written(96))
	holdError(t, "very many cells", many, digestOf(many[:97]), api.ErrForm)
	for n := range mostWrites + 1 {
		cells := withCell(cellsOf(logOf(40)), 0, written(uint64(n)))
		if n > 40 {
			holdError(t, "a number that is too great", cells, digestOf(cells), api.ErrShort)
		} else {
			holdLogged(t, "another number", cells, digestOf(cells[:n+1]), logOf(40)[:n])
		}
	}
}

// otherDigests tells such as aren't this one.
func otherDigests(d string) []string {
	l := []string{"", d[1:], d[:31], "\x00" + d, d + "\x00", d + d, d + "x", strings.Repeat("\x00", 32), strings.Repeat("\xff", 32), long(api.MaxText), strings.ToUpper(d) + "."}
	for i := range d {
		for _, x := range []byte{1, 0x80, 0xff} {
			b := []byte(d)
			b[i] ^= x
			l = append(l, string(b))
		}
	}
	return l
}

// P15.3: another digest than that of the first cells, also if it is that of all, or of another kind.
func TestGetDigest(t *testing.T) {
	for _, n := range []int{0, 1, 2, 5, 95} {
		cells := cellsOf(logOf(n))
		for _, d := range otherDigests(digestOf(cells)) {
			holdError(t, "another digest", cells, d, api.ErrSum)
		}
		more := append(slices.Clone(cells), cellOf(120, "more"))
		holdError(t, "the digest of further cells", more, digestOf(more), api.ErrSum)
		holdError(t, "the digest of fewer cells", cells, digestOf(cells[:n]), api.ErrSum)
		all := strings.Join(cells, "")
		texts := ""
		for _, c := range cells {
			texts += written(uint64(len(c))) + c
		}
		for _, s := range []string{all, "\x00" + all, "\x01" + all, "\x02" + all, texts, "\x00" + texts, "\x01" + texts, "\x02\x02" + texts, "2" + texts} {
			d := sha256.Sum256([]byte(s))
			holdError(t, "a digest of another kind", cells, string(d[:]), api.ErrSum)
		}
	}
	for _, n := range []int{1, 2, 95} {
		holdError(t, "the digest of no writes", cellsOf(logOf(n)), Empty(), api.ErrSum)
	}
}

// P15.3: whichever cell has become another, the digest tells so.
func TestGetChanged(t *testing.T) {
	for _, n := range []int{1, 2, 6} {
		cells := cellsOf(logOf(n))
		d := digestOf(cells)
		for i := 1; i <= n; i++ {
			for _, c := range []string{"", "bad", cells[i] + "\x00", cells[i][1:], cells[i][:len(cells[i])-1], cellOf(110, "other"), cellOf(99, "")} {
				holdError(t, "a changed cell", withCell(cells, i, c), d, api.ErrSum)
			}
			for k := range len(cells[i]) {
				b := []byte(cells[i])
				b[k] ^= 1
				holdError(t, "a changed byte", withCell(cells, i, string(b)), d, api.ErrSum)
			}
			for j := 1; j < i; j++ {
				other := withCell(withCell(cells, i, cells[j]), j, cells[i])
				holdError(t, "changed cells", other, d, api.ErrSum)
			}
		}
	}
	a := []string{written(2), cellOf(100, "ab"), cellOf(100, "")}
	b := []string{written(2), cellOf(100, "ab")[:17], "b" + cellOf(100, "")}
	holdError(t, "the bytes in other cells", b, digestOf(a), api.ErrSum)
}

// badCells tells cells that aren't those of a write that may be logged.
func badCells() []string {
	l := []string{"", "\x00", "bad", written(100), written(100, 0)[:15], cellOf(100, "") + "\x00", cellOf(100, "abc") + "d", cellOf(100, "abc") + cellOf(100, "abc"), "\x00" + cellOf(100, "abc"), "abc" + written(100, 3), written(3) + "abc" + written(100), written(3, 100) + "abc", "\x64\x00\x00\x00\x00\x00\x00\x00" + written(0), "100" + written(0), written(0, 100, 0), strings.Repeat("\x00", 16), strings.Repeat("\xff", 16), long(16), long(api.MaxCell)}
	for _, at := range edges {
		l = append(l, cellOf(uint64(at), ""), cellOf(uint64(at), "abc"), cellOf(uint64(at), long(mostBytes)))
	}
	for _, at := range []uint64{1 << 63, 1<<63 + 100, 1<<63 + 139, math.MaxUint64, math.MaxUint64 - 99, 1<<40 + 120} {
		l = append(l, cellOf(at, ""), cellOf(at, "abc"))
	}
	whole := cellOf(120, "abcdefgh")
	for n := range whole {
		l = append(l, whole[:n])
	}
	for _, n := range []uint64{0, 1, 7, 9, 16, 24, 1 << 31, 1 << 32, 1<<32 + 8, 1 << 63, 1<<63 + 8, 1<<64 - 8, 1<<64 - 16, 1<<64 - 1} {
		l = append(l, written(120, n)+"abcdefgh")
	}
	for _, n := range []int{mostBytes + 1, mostBytes + 2, 2040, 2041, 2047, 2048, 2049, 4096, 4096 + 120} {
		l = append(l, cellOf(120, long(n)), cellOf(99, long(n)))
	}
	return append(l, written(120, mostBytes)+long(mostBytes-1), written(120, mostBytes)+long(mostBytes+1))
}

// P15.3: cells whose digest fits, one of which isn't that of a write that may be logged, wherever it stands; with another digest it is that which is told, and behind the log it makes no difference.
func TestGetForm(t *testing.T) {
	for _, bad := range badCells() {
		for _, n := range []int{1, 2, 7} {
			cells := cellsOf(logOf(n))
			for i := 1; i <= n; i++ {
				other := withCell(cells, i, bad)
				holdError(t, "a bad cell", other, digestOf(other), api.ErrForm)
				holdError(t, "a bad cell, another digest", other, digestOf(cells), api.ErrSum)
				holdError(t, "a bad cell, no digest", other, "", api.ErrSum)
				holdError(t, "a bad cell, fewer cells", other[:n], digestOf(other[:n]), api.ErrShort)
			}
			further := append(slices.Clone(cells), bad)
			holdLogged(t, "a bad cell behind the log", further, digestOf(cells), logOf(n))
		}
	}
	for _, i := range []int{1, 48, 95} {
		cells := withCell(cellsOf(logOf(95)), i, cellOf(140, ""))
		holdError(t, "a bad cell of the most", cells, digestOf(cells), api.ErrForm)
	}
	for _, n := range []int{api.MaxText, api.MaxText + 100, 1 << 20} {
		cells := []string{written(1), cellOf(120, long(n))}
		holdError(t, "a very long cell", cells, digestOf(cells), api.ErrForm)
		holdError(t, "a very long cell, another digest", cells, Empty(), api.ErrSum)
	}
	none := append([]string{written(3)}, make([]string, 3)...)
	holdError(t, "three cells of no bytes", none, digestOf(none), api.ErrForm)
}

// P15.3: every place and every length that a write may have are told, and no other.
func TestGetEdges(t *testing.T) {
	for at := range uint64(600) {
		cells := []string{written(1), cellOf(at, "abc")}
		if at >= firstAt && at <= lastAt {
			holdLogged(t, "a place", cells, digestOf(cells), []Write{{At: int(at), Cell: "abc"}})
		} else {
			holdError(t, "no place", cells, digestOf(cells), api.ErrForm)
		}
	}
	for n := range mostBytes + 40 {
		cells := []string{written(1), cellOf(139, long(n))}
		if n <= mostBytes {
			holdLogged(t, "a length", cells, digestOf(cells), []Write{{At: 139, Cell: long(n)}})
		} else {
			holdError(t, "too long", cells, digestOf(cells), api.ErrForm)
		}
	}
}

// Rule 4: what is done to what was answered makes no difference to what was handed in, nor to a later answer, nor one answer to another.
func TestApart(t *testing.T) {
	l := logOf(5)
	was := slices.Clone(l)
	first, d, _ := Put(l)
	second, _, _ := Put(l)
	spoilCells(first)
	third, again, e := Put(l)
	if e != api.OK || again != d || !slices.Equal(second, cellsOf(was)) || !slices.Equal(third, cellsOf(was)) || !slices.Equal(l, was) {
		t.Errorf("rule 4: behind spoilt cells: %s and %s", brief(second), brief(third))
	}
	one, _ := Get(second, d)
	two, _ := Get(second, d)
	spoilLog(one)
	three, e := Get(second, d)
	if e != api.OK || !slices.Equal(two, was) || !slices.Equal(three, was) || !slices.Equal(second, cellsOf(was)) {
		t.Errorf("rule 4: behind spoilt writes: %#v and %#v", two, three)
	}
	spoilLog(l)
	spoilCells(second)
	if !slices.Equal(third, cellsOf(was)) || !slices.Equal(two, was) {
		t.Error("rule 4: what was answered has become another with what was handed in")
	}
}

// Rule 4: nothing of what lies behind a list's length is handed out.
func TestBehind(t *testing.T) {
	cells, d, _ := Put(guardedLog(logOf(3)))
	for _, c := range cells[len(cells):cap(cells)] {
		if c != "" {
			t.Errorf("rule 4: behind the cells lies %x", c)
		}
	}
	l, _ := Get(guardedCells(cells), d)
	for _, w := range l[len(l):cap(l)] {
		if w != (Write{}) {
			t.Errorf("rule 4: behind the writes lies %#v", w)
		}
	}
}

// chance tells numbers that are the same each time.
type chance uint64

func (c *chance) next() uint64 {
	*c = *c*6364136223846793005 + 1442695040888963407
	return uint64(*c) ^ uint64(*c)>>29
}

func (c *chance) below(n int) int {
	return int(c.next() >> 11 % uint64(n))
}

// write tells one that mostly may be logged.
func (c *chance) write() Write {
	w := Write{At: firstAt + c.below(40), Cell: long(c.below(60))}
	switch c.below(40) {
	case 0:
		w.At = edges[c.below(len(edges))]
	case 1:
		w.Cell = long(mostBytes - 2 + c.below(5))
	}
	return w
}

// spoilt tells cells that differ from these, or don't.
func (c *chance) spoilt(cells, bad []string) []string {
	i := c.below(len(cells))
	switch c.below(8) {
	case 0:
		return cells[:i]
	case 1:
		return withCell(cells, 0, written(uint64(c.below(len(cells)+2))))
	case 2:
		return withCell(cells, i, bad[c.below(len(bad))])
	case 3:
		return append(slices.Clone(cells), bad[c.below(len(bad))])
	case 4:
		return withCell(cells, i, cells[c.below(len(cells))])
	}
	return cells
}

// P15.1, P15.2, P15.3: rows of logs of chance, spoilt in all ways, against the document's sentences.
func TestChance(t *testing.T) {
	c := chance(15)
	bad := badCells()
	seen := map[api.Errno]int{}
	for range 6000 {
		var l []Write
		for range c.below(8) * (1 + 15*(c.below(16)/15)) {
			l = append(l, c.write())
		}
		holdPut(t, "chance", l)
		cells := c.spoilt(cellsOf(l), bad)
		d := digestOf(cells)
		switch c.below(4) {
		case 0:
			d = digestOf(cellsOf(l))
		case 1:
			if len(cells) > 0 {
				d = digestOf(cells[:min(len(cells), max(sizeOf(cells[0]), 1))])
			}
		}
		holdGet(t, "chance", cells, d)
		if len(cells) > 0 {
			holdSize(t, "chance", cells[0], sizeOf(cells[0]))
		}
		_, e := Get(cells, d)
		seen[e]++
		_, _, e = Put(l)
		seen[e+1000]++
	}
	for _, e := range []api.Errno{api.OK, api.ErrForm, api.ErrShort, api.ErrSum, 1000, 1000 + api.ErrFull, 1000 + api.ErrArg, 1000 + api.ErrLong} {
		if seen[e] < 10 {
			t.Errorf("chance met %d only %d times", e, seen[e])
		}
	}
}

// ranges tells of a function how many loops it has over what kind of thing: an integer's is one whose thing is a number that was handed in or reckoned with it, and that has no second variable.
func ranges(t *testing.T, name string) (integers, others int) {
	t.Helper()
	file, err := parser.ParseFile(token.NewFileSet(), "intent.go", nil, 0)
	if err != nil {
		t.Fatal(err)
	}
	for _, d := range file.Decls {
		f, ok := d.(*ast.FuncDecl)
		if !ok || f.Name.Name != name {
			continue
		}
		ast.Inspect(f, func(n ast.Node) bool {
			switch x := n.(type) {
			case *ast.RangeStmt:
				if x.Value == nil && isNumber(x.X, f) && asksCell(x) {
					integers++
				} else {
					others++
				}
			case *ast.ForStmt:
				others++
			}
			return true
		})
	}
	return integers, others
}

// isNumber: is it the function's parameter of kind int, or a difference from it?
func isNumber(e ast.Expr, f *ast.FuncDecl) bool {
	if b, ok := e.(*ast.BinaryExpr); ok {
		e = b.X
	}
	name, ok := e.(*ast.Ident)
	if !ok {
		return false
	}
	for _, p := range f.Type.Params.List {
		kind, ok := p.Type.(*ast.Ident)
		if ok && kind.Name == "int" && p.Names[0].Name == name.Name {
			return true
		}
	}
	return false
}

// asksCell: is a cell looked at there by the number?
func asksCell(r *ast.RangeStmt) bool {
	found := false
	ast.Inspect(r.Body, func(n ast.Node) bool {
		if x, ok := n.(*ast.IndexExpr); ok {
			list, ok := x.X.(*ast.Ident)
			found = found || ok && list.Name == "cells"
		}
		return true
	})
	return found
}

// Ways, layer 15: cells are gone through by a range over an integer, where their digest is made, and where their writes are told.
func TestWays(t *testing.T) {
	for _, name := range []string{"sum", "writes"} {
		if integers, others := ranges(t, name); integers != 1 || others != 0 {
			t.Errorf("Ways: %s has %d loops over an integer that ask for cells, and %d others", name, integers, others)
		}
	}
}
