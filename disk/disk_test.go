package disk

import (
	"go/ast"
	"go/parser"
	"go/token"
	"math"
	"reflect"
	"slices"
	"strconv"
	"strings"
	"testing"

	"cofferdam/api"
)

// most is how many bytes the document lets a cell have.
const most = 2048

// someText looks like chance, and is the same in each run.
func someText(length, seed int) string {
	b := make([]byte, length)
	x := uint32(seed)*2246822519 + 777
	for i := range b {
		x = x*1664525 + 1013904223
		b[i] = byte(x >> 24)
	}
	return string(b)
}

// change is one of the model's writes that wait.
type change struct {
	at   int
	text string
}

// model is the document's sentences on a disk, with nothing worked out ahead of being asked for: the bytes that last, and the row.
type model struct {
	lasts []string
	row   []change
	dead  bool
}

func newModel(cells int) *model {
	return &model{lasts: make([]string, cells)}
}

func (m *model) has(at int) bool {
	return at >= 0 && at < len(m.lasts)
}

// bytes is what a cell has: by the last write of it that waits, or what lasts.
func (m *model) bytes(at int) string {
	for i := len(m.row) - 1; i >= 0; i-- {
		if m.row[i].at == at {
			return m.row[i].text
		}
	}
	return m.lasts[at]
}

func (m *model) write(at int, s string) api.Errno {
	switch {
	case m.dead:
		return api.ErrDisk
	case !m.has(at):
		return api.ErrArg
	case len(s) > most:
		return api.ErrLong
	}
	m.row = append(m.row, change{at, s})
	return api.OK
}

func (m *model) flush() api.Errno {
	if m.dead {
		return api.ErrDisk
	}
	m.crash(slices.Repeat([]bool{true}, len(m.row)))
	return api.OK
}

func (m *model) crash(kept []bool) {
	if m.dead {
		return
	}
	for i, c := range m.row {
		if i < len(kept) && kept[i] {
			m.lasts[c.at] = c.text
		}
	}
	m.row = nil
}

func (m *model) fail() {
	m.dead, m.row = true, nil
}

func (m *model) tamper(at int, s string) bool {
	if m.dead || !m.has(at) || len(s) > most {
		return false
	}
	m.lasts[at] = s
	var others []change
	for _, c := range m.row {
		if c.at != at {
			others = append(others, c)
		}
	}
	m.row = others
	return true
}

func (m *model) restore(image []string) {
	if m.dead {
		return
	}
	m.row = nil
	for at := range m.lasts {
		m.lasts[at] = ""
		if at < len(image) && len(image[at]) <= most {
			m.lasts[at] = image[at]
		}
	}
}

// hold holds that all that is asked of a disk without changing it is as the model says.
func hold(t *testing.T, what string, d *Disk, m *model) {
	t.Helper()
	if d.Size() != len(m.lasts) || d.Waiting() != len(m.row) || d.Dead() != m.dead {
		t.Fatalf("P9: %s: size %d, waiting %d, dead %v; want %d, %d, %v", what, d.Size(), d.Waiting(), d.Dead(), len(m.lasts), len(m.row), m.dead)
	}
	var image []string
	for at := -1; at <= len(m.lasts); at++ {
		want, wantErr := "", api.OK
		switch {
		case m.dead:
			wantErr = api.ErrDisk
		case !m.has(at):
			wantErr = api.ErrArg
		default:
			want = m.bytes(at)
			image = append(image, want)
		}
		if s, e := d.Read(at); s != want || e != wantErr {
			t.Fatalf("P9: %s: Read(%d): %.20q of %d bytes, error %d; want %.20q of %d bytes, error %d", what, at, s, len(s), e, want, len(want), wantErr)
		}
	}
	if got := d.Image(); !slices.Equal(got, image) {
		t.Fatalf("P9.3: %s: an image of %d texts, want %d, or one of them differs", what, len(got), len(image))
	}
}

// holdRead holds what one cell has.
func holdRead(t *testing.T, what string, d *Disk, at int, want string) {
	t.Helper()
	if s, e := d.Read(at); s != want || e != api.OK {
		t.Errorf("%s: Read(%d): %.20q of %d bytes, error %d; want %.20q of %d bytes", what, at, s, len(s), e, want, len(want))
	}
}

// mustWrite writes where no error is due.
func mustWrite(t *testing.T, d *Disk, at int, s string) {
	t.Helper()
	if e := d.Write(at, s); e != api.OK {
		t.Fatalf("P9.1: Write(%d) of %d bytes: error %d", at, len(s), e)
	}
}

// mustFlush flushes where no error is due.
func mustFlush(t *testing.T, d *Disk) {
	t.Helper()
	if e := d.Flush(); e != api.OK {
		t.Fatalf("P9.1: Flush: error %d", e)
	}
}

// P9.1: how many cells there are, each of them empty, the last one there and the one behind it not.
func TestNew(t *testing.T) {
	for _, c := range []struct{ cells, want int }{
		{math.MinInt, 1}, {-512, 1}, {-1, 1}, {0, 1}, {1, 1}, {2, 2}, {3, 3}, {140, 140},
		{511, 511}, {512, 512}, {513, 512}, {1 << 20, 512}, {math.MaxInt - 1, 512}, {math.MaxInt, 512},
	} {
		d := New(c.cells)
		if d == nil || d.Size() != c.want {
			t.Fatalf("P9.1: New(%d) has %d cells, want %d", c.cells, d.Size(), c.want)
		}
		hold(t, "New("+strconv.Itoa(c.cells)+")", d, newModel(c.want))
		mustWrite(t, d, c.want-1, "last")
		if e := d.Write(c.want, "behind"); e != api.ErrArg {
			t.Errorf("P9.1: New(%d): Write(%d): error %d", c.cells, c.want, e)
		}
		holdRead(t, "P9.1: the last cell", d, c.want-1, "last")
	}
}

// The document's example.
func TestExample(t *testing.T) {
	d := New(1)
	mustWrite(t, d, 0, "a")
	mustFlush(t, d)
	mustWrite(t, d, 0, "b")
	mustWrite(t, d, 0, "c")
	holdRead(t, "P9.1: the example", d, 0, "c")
	d.Crash(true)
	holdRead(t, "P9.2: the example", d, 0, "b")
}

// P9.1: the errors of Write and Read, ErrArg ahead of ErrLong; a refused call leaves all as it was (rule 3).
func TestErrors(t *testing.T) {
	for _, cells := range []int{1, 2, 3, 512} {
		d, m := New(cells), newModel(cells)
		for at := range cells {
			mustWrite(t, d, at, someText(at%5, at))
			m.write(at, someText(at%5, at))
		}
		for _, at := range []int{math.MinInt, math.MinInt + 1, -cells, -1, 0, cells - 1, cells, cells + 1, 512, math.MaxInt - 1, math.MaxInt} {
			there := at >= 0 && at < cells
			for _, length := range []int{0, 1, most - 1, most, most + 1, most * 2, api.MaxText + 1} {
				want := api.OK
				if length > most {
					want = api.ErrLong
				}
				if !there {
					want = api.ErrArg
				}
				if e := d.Write(at, someText(length, 5)); e != want {
					t.Errorf("P9.1: of %d cells, Write(%d) of %d bytes: error %d, want %d", cells, at, length, e, want)
				}
				if want == api.OK {
					m.write(at, someText(length, 5))
				}
			}
			if s, e := d.Read(at); !there && (s != "" || e != api.ErrArg) {
				t.Errorf("P9.1: of %d cells, Read(%d): %q, error %d", cells, at, s, e)
			}
			hold(t, "behind refused writes", d, m)
		}
	}
}

// P9.1: each text of up to MaxCell bytes is read as it was written, ahead of a Flush, behind it, and behind a Crash.
func TestTexts(t *testing.T) {
	texts := []string{"", "\x00", "a", "\xff\xfe", "\xe2\x80", strings.Repeat("\x00", most), strings.Repeat("\xff", most), someText(most-1, 1), someText(most, 2)}
	for b := range 256 {
		texts = append(texts, string([]byte{byte(b)}))
	}
	d := New(2)
	mustWrite(t, d, 1, "other")
	mustFlush(t, d)
	for _, s := range texts {
		mustWrite(t, d, 0, "before")
		mustWrite(t, d, 0, s)
		holdRead(t, "P9.1: ahead of a Flush", d, 0, s)
		mustFlush(t, d)
		holdRead(t, "P9.1: behind a Flush", d, 0, s)
		d.Crash()
		holdRead(t, "P9.2: behind a Crash", d, 0, s)
		holdRead(t, "P9.1: another cell", d, 1, "other")
	}
}

// P9.1: each write counts as one that waits, also of the same bytes or of none; refused ones and reads don't.
func TestWaiting(t *testing.T) {
	d := New(3)
	for i := range 2000 {
		if d.Waiting() != i {
			t.Fatalf("P9.1: %d wait behind %d writes", d.Waiting(), i)
		}
		mustWrite(t, d, i%2, []string{"", "same"}[i/2%2])
		d.Write(3, "a")
		d.Write(0, strings.Repeat("x", most+1))
		d.Read(0)
		d.Image()
		d.Tamper(3, "a")
		d.Tamper(2, "none of this cell waits")
	}
	mustFlush(t, d)
	mustFlush(t, d)
	if d.Waiting() != 0 {
		t.Errorf("P9.1: %d wait behind a Flush", d.Waiting())
	}
	mustWrite(t, d, 0, "a")
	if d.Waiting() != 1 {
		t.Errorf("P9.1: %d wait behind a Flush and a write", d.Waiting())
	}
}

// P9.2: rows of up to six writes of two cells, in each order, each set of them kept; with fewer, as many and more places than writes.
func TestEachCrash(t *testing.T) {
	for length := range 7 {
		for cells := range 1 << length {
			for places := range length + 3 {
				for set := range 1 << places {
					crashOf(t, length, cells, places, set)
				}
			}
		}
	}
}

// crashOf: one of these. The bits of cells tell the writes' cells, those of set the places kept.
func crashOf(t *testing.T, length, cells, places, set int) {
	t.Helper()
	d, m := New(2), newModel(2)
	for at, s := range []string{"old 0", "old 1"} {
		mustWrite(t, d, at, s)
		m.write(at, s)
	}
	mustFlush(t, d)
	m.flush()
	for i := range length {
		s := "write " + strconv.Itoa(i)
		mustWrite(t, d, cells>>i&1, s)
		m.write(cells>>i&1, s)
	}
	kept := make([]bool, places)
	for i := range kept {
		kept[i] = set>>i&1 == 1
	}
	hold(t, "ahead of a Crash", d, m)
	asked := slices.Clone(kept)
	d.Crash(kept...)
	m.crash(kept)
	if !slices.Equal(kept, asked) {
		t.Fatal("rule 4: Crash has changed what was handed in")
	}
	hold(t, "behind a Crash", d, m)
	d.Crash(true, true, true, true, true, true)
	hold(t, "behind a second Crash", d, m)
}

// P9.2: the cases that the document names, by their texts.
func TestCrashCases(t *testing.T) {
	for _, c := range []struct {
		name   string
		writes []change
		kept   []bool
		want   [2]string
	}{
		{"no writes, no places", nil, nil, [2]string{"x", "y"}},
		{"no writes, a place", nil, []bool{true}, [2]string{"x", "y"}},
		{"no places", []change{{0, "a"}, {1, "b"}}, nil, [2]string{"x", "y"}},
		{"fewer places", []change{{0, "a"}, {1, "b"}}, []bool{true}, [2]string{"a", "y"}},
		{"as many places", []change{{0, "a"}, {1, "b"}}, []bool{false, true}, [2]string{"x", "b"}},
		{"more places", []change{{0, "a"}, {1, "b"}}, []bool{true, true, true, true}, [2]string{"a", "b"}},
		{"all lost", []change{{0, "a"}, {1, "b"}}, []bool{false, false}, [2]string{"x", "y"}},
		{"the first of one cell kept", []change{{0, "a"}, {0, "b"}}, []bool{true, false}, [2]string{"a", "y"}},
		{"the last of one cell kept", []change{{0, "a"}, {0, "b"}}, []bool{false, true}, [2]string{"b", "y"}},
		{"the middle of one cell kept", []change{{0, "a"}, {0, "b"}, {0, "c"}}, []bool{false, true, false}, [2]string{"b", "y"}},
		{"two of one cell kept", []change{{0, "a"}, {0, "b"}, {0, "c"}}, []bool{true, true}, [2]string{"b", "y"}},
		{"an early one lost, a late one of another cell kept", []change{{0, "a"}, {1, "b"}}, []bool{false, true}, [2]string{"x", "b"}},
		{"a write of nothing kept", []change{{0, "a"}, {0, ""}}, []bool{true, true}, [2]string{"", "y"}},
	} {
		d := New(2)
		mustWrite(t, d, 0, "x")
		mustWrite(t, d, 1, "y")
		mustFlush(t, d)
		for _, w := range c.writes {
			mustWrite(t, d, w.at, w.text)
		}
		d.Crash(c.kept...)
		holdRead(t, "P9.2: "+c.name, d, 0, c.want[0])
		holdRead(t, "P9.2: "+c.name, d, 1, c.want[1])
		if d.Waiting() != 0 {
			t.Errorf("P9.2: %s: %d wait", c.name, d.Waiting())
		}
	}
}

// P9.2: what a Crash kept lasts, and what it lost doesn't come again by a Flush or another Crash; places count from 0 on again.
func TestCrashAgain(t *testing.T) {
	d := New(2)
	mustWrite(t, d, 0, "a")
	mustWrite(t, d, 1, "b")
	d.Crash(true, false)
	mustFlush(t, d)
	d.Crash(true, true)
	holdRead(t, "P9.2: kept", d, 0, "a")
	holdRead(t, "P9.2: lost", d, 1, "")
	mustWrite(t, d, 1, "c")
	d.Crash(false, true)
	holdRead(t, "P9.2: lost at place 0", d, 1, "")
	mustWrite(t, d, 1, "d")
	d.Crash(true)
	holdRead(t, "P9.2: kept at place 0", d, 1, "d")
}

// P9.2 and P9.1: what was flushed is no matter of a Crash, and the places are those of the writes behind the Flush.
func TestCrashBehindFlush(t *testing.T) {
	d := New(2)
	mustWrite(t, d, 0, "a")
	mustWrite(t, d, 1, "b")
	mustFlush(t, d)
	mustWrite(t, d, 0, "c")
	mustWrite(t, d, 1, "d")
	d.Crash(false, true)
	holdRead(t, "P9.2: lost", d, 0, "a")
	holdRead(t, "P9.2: kept", d, 1, "d")
}

// Rule 4: what lies behind the length of a list of places or of an image isn't read.
func TestBehindALength(t *testing.T) {
	d := New(2)
	mustWrite(t, d, 0, "a")
	mustWrite(t, d, 1, "b")
	d.Crash([]bool{true, true}[:1]...)
	holdRead(t, "P9.2: within the length", d, 0, "a")
	holdRead(t, "P9.2: behind the length", d, 1, "")
	d.Restore([]string{"c", "d"}[:1])
	holdRead(t, "P9.3: within the length", d, 0, "c")
	holdRead(t, "P9.3: behind the length", d, 1, "")
}

// P9.3: what Tamper refuses, and that nothing is changed then.
func TestTamperRefused(t *testing.T) {
	d, m := New(3), newModel(3)
	for at := range 3 {
		mustWrite(t, d, at, "a")
		m.write(at, "a")
	}
	for _, at := range []int{math.MinInt, -1, 0, 2, 3, 512, math.MaxInt} {
		for _, length := range []int{most + 1, most * 2, api.MaxText + 1} {
			if d.Tamper(at, strings.Repeat("x", length)) {
				t.Errorf("P9.3: Tamper(%d) of %d bytes is true", at, length)
			}
		}
		if (at < 0 || at > 2) && (d.Tamper(at, "") || d.Tamper(at, "x")) {
			t.Errorf("P9.3: Tamper(%d) is true", at)
		}
		hold(t, "behind a refused Tamper", d, m)
	}
	d.Crash(true, true, false)
	m.crash([]bool{true, true, false})
	hold(t, "behind a refused Tamper and a Crash", d, m)
}

// P9.3: a cell that was tampered with has those bytes, lasting, and its writes are none any more; those of others keep their order, and their places are told anew.
func TestTamper(t *testing.T) {
	for _, s := range []string{"", "t", someText(most-1, 3), someText(most, 4)} {
		d := New(3)
		mustWrite(t, d, 2, "old")
		mustFlush(t, d)
		for i, w := range []change{{0, "a"}, {1, "b"}, {0, "c"}, {2, "d"}, {1, "e"}, {0, "f"}} {
			mustWrite(t, d, w.at, w.text)
			if d.Waiting() != i+1 {
				t.Errorf("P9.3: %d wait, want %d", d.Waiting(), i+1)
			}
		}
		if !d.Tamper(0, s) || d.Waiting() != 3 {
			t.Errorf("P9.3: Tamper of a cell with writes: %d wait", d.Waiting())
		}
		holdRead(t, "P9.3: the cell", d, 0, s)
		holdRead(t, "P9.3: another cell", d, 1, "e")
		holdRead(t, "P9.3: another cell", d, 2, "d")
		d.Crash(true, false, false) // of "b", "d" and "e"
		holdRead(t, "P9.3: the cell behind a Crash", d, 0, s)
		holdRead(t, "P9.3: kept of another cell", d, 1, "b")
		holdRead(t, "P9.3: lost of another cell", d, 2, "old")
	}
}

// P9.3: of a cell without writes no other write is taken out; a write behind the Tamper waits as any other.
func TestTamperBetweenWrites(t *testing.T) {
	d := New(2)
	mustWrite(t, d, 1, "a")
	if !d.Tamper(0, "t") || d.Waiting() != 1 {
		t.Errorf("P9.3: Tamper of a cell without writes: %d wait", d.Waiting())
	}
	mustWrite(t, d, 0, "b")
	holdRead(t, "P9.3: written behind the Tamper", d, 0, "b")
	d.Crash(true)
	holdRead(t, "P9.3: lost behind the Tamper", d, 0, "t")
	holdRead(t, "P9.3: kept", d, 1, "a")
	mustWrite(t, d, 0, "c")
	d.Tamper(0, "u")
	mustFlush(t, d)
	holdRead(t, "P9.3: flushed behind the Tamper", d, 0, "u")
	d.Crash(true, true)
	holdRead(t, "P9.3: crashed behind the Tamper", d, 0, "u")
}

// P9.3: images of no, fewer, as many and more texts than cells, and texts that are too long, with writes waiting.
func TestRestore(t *testing.T) {
	long := strings.Repeat("x", most+1)
	full := someText(most, 6)
	for _, c := range []struct{ image, want []string }{
		{nil, []string{"", "", ""}},
		{[]string{}, []string{"", "", ""}},
		{[]string{"a"}, []string{"a", "", ""}},
		{[]string{"", "b"}, []string{"", "b", ""}},
		{[]string{"a", "b", "c"}, []string{"a", "b", "c"}},
		{[]string{"a", "b", "c", "d", "e"}, []string{"a", "b", "c"}},
		{[]string{long, "b", "c"}, []string{"", "b", "c"}},
		{[]string{"a", long}, []string{"a", "", ""}},
		{[]string{"a", full, long, "d"}, []string{"a", full, ""}},
		{[]string{long, long, long, long}, []string{"", "", ""}},
		{[]string{"a", strings.Repeat("x", api.MaxText+1), full, long}, []string{"a", "", full}},
		{slices.Repeat([]string{"z"}, 1000), []string{"z", "z", "z"}},
	} {
		d := New(3)
		for at := range 3 {
			mustWrite(t, d, at, "old")
		}
		mustFlush(t, d)
		for at := range 3 {
			mustWrite(t, d, at, "waits")
		}
		handed := slices.Clone(c.image)
		d.Restore(handed)
		if !slices.Equal(handed, c.image) {
			t.Fatal("rule 4: Restore has changed what was handed in")
		}
		for _, again := range []string{"a Restore", "a Crash", "a Flush"} {
			if !slices.Equal(d.Image(), c.want) || d.Waiting() != 0 {
				t.Errorf("P9.3: %d texts, behind %s: %.60q, %d wait; want %.60q", len(c.image), again, d.Image(), d.Waiting(), c.want)
			}
			for at, s := range c.want {
				holdRead(t, "P9.3: behind "+again, d, at, s)
			}
			if again == "a Restore" {
				d.Crash(true, true, true)
			} else {
				mustFlush(t, d)
			}
		}
	}
}

// P9.3: an image has what each cell has, also by writes that wait; taking it changes nothing, and a disk goes back to it.
func TestImage(t *testing.T) {
	d := New(3)
	mustWrite(t, d, 0, "a")
	mustFlush(t, d)
	mustWrite(t, d, 0, "b")
	mustWrite(t, d, 2, "c")
	image := d.Image()
	if !slices.Equal(image, []string{"b", "", "c"}) || d.Waiting() != 2 {
		t.Errorf("P9.3: the image is %q, %d wait", image, d.Waiting())
	}
	d.Crash()
	if l := d.Image(); !slices.Equal(l, []string{"a", "", ""}) {
		t.Errorf("P9.3: behind a Crash the image is %q", l)
	}
	d.Restore(image)
	d.Crash()
	if l := d.Image(); !slices.Equal(l, []string{"b", "", "c"}) {
		t.Errorf("P9.3: behind a Restore and a Crash the image is %q", l)
	}
	other := New(2)
	other.Restore(d.Image())
	if l := other.Image(); !slices.Equal(l, []string{"b", ""}) {
		t.Errorf("P9.3: of a smaller disk the image is %q", l)
	}
}

// Rule 4: an image that is handed in or out shares nothing with the disk, nor with another image.
func TestImagesShareNothing(t *testing.T) {
	d := New(2)
	in := []string{"a", "b"}
	d.Restore(in)
	in[0] = "changed by its owner"
	holdRead(t, "rule 4: handed in", d, 0, "a")
	mustWrite(t, d, 1, "c")
	mustFlush(t, d)
	d.Tamper(0, "d")
	if in[0] != "changed by its owner" || in[1] != "b" {
		t.Errorf("rule 4: the disk has changed what was handed in: %q", in)
	}
	out, second := d.Image(), d.Image()
	out[0] = "changed"
	_ = append(out[:1], "changed")
	holdRead(t, "rule 4: handed out", d, 0, "d")
	holdRead(t, "rule 4: handed out", d, 1, "c")
	d.Crash()
	holdRead(t, "rule 4: handed out, what lasts", d, 0, "d")
	holdRead(t, "rule 4: handed out, what lasts", d, 1, "c")
	mustWrite(t, d, 0, "e")
	d.Restore(nil)
	if !slices.Equal(second, []string{"d", "c"}) {
		t.Errorf("rule 4: an image that was handed out is now %q", second)
	}
}

// P9.3: each call of a dead disk, ErrDisk ahead of the other errors; it stays dead, whatever is called.
func TestDead(t *testing.T) {
	long := strings.Repeat("x", most+1)
	for _, cells := range []int{1, 3, 512} {
		d := New(cells)
		mustWrite(t, d, 0, "a")
		mustFlush(t, d)
		mustWrite(t, d, cells-1, "b")
		if d.Dead() {
			t.Error("P9.3: dead ahead of Fail")
		}
		d.Fail()
		for range 3 {
			for _, at := range []int{math.MinInt, -1, 0, cells - 1, cells, math.MaxInt} {
				for _, s := range []string{"", "c", long} {
					if e := d.Write(at, s); e != api.ErrDisk {
						t.Errorf("P9.3: dead, Write(%d) of %d bytes: error %d", at, len(s), e)
					}
					if d.Tamper(at, s) {
						t.Errorf("P9.3: dead, Tamper(%d) of %d bytes is true", at, len(s))
					}
				}
				if s, e := d.Read(at); s != "" || e != api.ErrDisk {
					t.Errorf("P9.3: dead, Read(%d): %q, error %d", at, s, e)
				}
			}
			if e := d.Flush(); e != api.ErrDisk || !d.Dead() || d.Waiting() != 0 || len(d.Image()) != 0 || d.Size() != cells {
				t.Errorf("P9.3: dead, Flush: error %d, %v, %d wait, %d texts, %d cells", e, d.Dead(), d.Waiting(), len(d.Image()), d.Size())
			}
			d.Crash()
			d.Crash(true, true)
			d.Restore(nil)
			d.Restore([]string{"d"})
			d.Fail()
		}
	}
}

// The promises of nil disks: ErrNil, 0, false, nothing; ErrNil ahead of the other errors.
func TestNil(t *testing.T) {
	var d *Disk
	for range 2 {
		for _, at := range []int{math.MinInt, -1, 0, 1, 512, math.MaxInt} {
			for _, s := range []string{"", "a", strings.Repeat("x", most+1)} {
				if e := d.Write(at, s); e != api.ErrNil {
					t.Errorf("P9: nil, Write(%d) of %d bytes: error %d", at, len(s), e)
				}
				if d.Tamper(at, s) {
					t.Errorf("P9: nil, Tamper(%d) of %d bytes is true", at, len(s))
				}
			}
			if s, e := d.Read(at); s != "" || e != api.ErrNil {
				t.Errorf("P9: nil, Read(%d): %q, error %d", at, s, e)
			}
		}
		if e := d.Flush(); e != api.ErrNil || d.Size() != 0 || d.Waiting() != 0 || d.Dead() || len(d.Image()) != 0 {
			t.Errorf("P9: nil, Flush: error %d, %d cells, %d wait, %v, %d texts", e, d.Size(), d.Waiting(), d.Dead(), len(d.Image()))
		}
		d.Crash()
		d.Crash(true, false)
		d.Restore(nil)
		d.Restore([]string{"a"})
		d.Fail()
	}
}

// chance tells numbers that look like chance, the same in each run.
type chance uint32

func (c *chance) below(n int) int {
	*c = *c*1664525 + 1013904223
	return int(uint64(*c) * uint64(n) >> 32)
}

// step makes one call, of the disk and of the model, and holds what both answer.
func step(t *testing.T, c *chance, d *Disk, m *model, images *[][]string) {
	t.Helper()
	at := c.below(len(m.lasts)+2) - 1
	s := someText([]int{0, 1, 5, most - 1, most, most + 1}[c.below(6)], c.below(1000))
	switch k := c.below(1000); {
	case k < 550:
		if got, want := d.Write(at, s), m.write(at, s); got != want {
			t.Fatalf("P9.1: Write(%d) of %d bytes: error %d, want %d", at, len(s), got, want)
		}
	case k < 620:
		if got, want := d.Flush(), m.flush(); got != want {
			t.Fatalf("P9.1: Flush: error %d, want %d", got, want)
		}
	case k < 750:
		kept := make([]bool, c.below(len(m.row)+3))
		for i := range kept {
			kept[i] = c.below(2) == 0
		}
		d.Crash(kept...)
		m.crash(kept)
	case k < 900:
		if got, want := d.Tamper(at, s), m.tamper(at, s); got != want {
			t.Fatalf("P9.3: Tamper(%d) of %d bytes: %v, want %v", at, len(s), got, want)
		}
	case k < 940:
		*images = append(*images, d.Image())
	case k < 999:
		if n := len(*images); n > 0 {
			image := (*images)[c.below(n)]
			image = append(slices.Clone(image[:c.below(len(image)+1)]), s)
			d.Restore(image)
			m.restore(image)
		}
	default:
		d.Fail()
		m.fail()
	}
}

// P9.1 to P9.3: long rows of calls, all that can be asked held behind each; and P2: disks that are worked with by turns have nothing to do with one another, but for images of one that are put into the other.
func TestRowsOfCalls(t *testing.T) {
	for seed := range 60 {
		c := chance(seed*7919 + 1)
		var disks [3]*Disk
		var models [3]*model
		var images [][]string
		for i := range disks {
			cells := c.below(7) + 1
			disks[i], models[i] = New(cells), newModel(cells)
		}
		for range 400 {
			i := c.below(len(disks))
			step(t, &c, disks[i], models[i], &images)
			for i := range disks {
				hold(t, "seed "+strconv.Itoa(seed), disks[i], models[i])
			}
		}
	}
}

// P2: what is done with one disk, none of it is seen of another.
func TestApart(t *testing.T) {
	a, b, m := New(2), New(2), newModel(2)
	mustWrite(t, b, 0, "b")
	mustFlush(t, b)
	mustWrite(t, b, 1, "waits")
	m.write(0, "b")
	m.flush()
	m.write(1, "waits")
	for i, do := range []func(){
		func() { a.Write(0, "a") },
		func() { a.Write(1, "a") },
		func() { a.Crash(true) },
		func() { a.Write(1, "a") },
		func() { a.Flush() },
		func() { a.Tamper(0, "t") },
		func() { a.Restore([]string{"r", "r"}) },
		func() { a.Fail() },
	} {
		do()
		hold(t, "behind call "+strconv.Itoa(i)+" of another disk", b, m)
	}
	b.Crash()
	m.crash(nil)
	hold(t, "behind its own Crash", b, m)
}

// LANGUAGE.md, rule 8: texts that nobody can be told any more aren't kept.
func TestNothingMoreIsKept(t *testing.T) {
	for _, c := range []struct {
		name string
		do   func(*Disk)
	}{
		{"Flush", func(d *Disk) { d.Flush() }},
		{"Crash", func(d *Disk) { d.Crash(true) }},
		{"Tamper", func(d *Disk) { d.Tamper(0, "") }},
		{"Restore", func(d *Disk) { d.Restore(nil) }},
		{"Fail", func(d *Disk) { d.Fail() }},
	} {
		d := New(1)
		mustWrite(t, d, 0, "a")
		mustWrite(t, d, 0, "b")
		c.do(d)
		for _, w := range d.waiting[:cap(d.waiting)] {
			if w.s != "" {
				t.Errorf("behind %s a write of %q is kept", c.name, w.s)
			}
		}
	}
	d := New(2)
	mustWrite(t, d, 0, "a")
	mustFlush(t, d)
	d.Fail()
	if d.cells[0] != "" || d.lasting[0] != "" {
		t.Error("a dead disk keeps its texts")
	}
}

// Ways, layer 9: what is kept comes in through a variadic function.
func TestCrashIsVariadic(t *testing.T) {
	if f := reflect.TypeOf((*Disk).Crash); !f.IsVariadic() || f.NumIn() != 2 {
		t.Error("Ways: what is kept doesn't come in through a variadic function")
	}
}

// Ways, layer 9: writes are taken out by a closure; cells are moved by copy, wherever all of them are.
func TestWays(t *testing.T) {
	file, err := parser.ParseFile(token.NewFileSet(), "disk.go", nil, 0)
	if err != nil {
		t.Fatal(err)
	}
	bodies := map[string]*ast.FuncDecl{}
	for _, d := range file.Decls {
		if f, ok := d.(*ast.FuncDecl); ok {
			bodies[f.Name.Name] = f
		}
	}
	for _, name := range []string{"Flush", "Image", "Restore", "settle"} {
		if !calls(bodies[name], func(c *ast.CallExpr) bool { return named(c.Fun) == "copy" }) {
			t.Errorf("Ways: %s doesn't move cells by copy", name)
		}
	}
	for _, name := range []string{"Crash", "Restore", "Fail"} {
		if !calls(bodies[name], func(c *ast.CallExpr) bool { return named(c.Fun) == "settle" }) {
			t.Errorf("Ways: %s doesn't move cells by settle's copy", name)
		}
	}
	byClosure := func(c *ast.CallExpr) bool {
		if named(c.Fun) != "DeleteFunc" || len(c.Args) != 2 {
			return false
		}
		_, ok := c.Args[1].(*ast.FuncLit)
		return ok && named(c.Args[0]) == "waiting"
	}
	if !calls(bodies["Tamper"], byClosure) {
		t.Error("Ways: writes aren't taken out by a closure")
	}
}

// calls: is there such a call in the function?
func calls(f *ast.FuncDecl, such func(*ast.CallExpr) bool) bool {
	found := false
	if f != nil {
		ast.Inspect(f, func(n ast.Node) bool {
			c, ok := n.(*ast.CallExpr)
			found = found || ok && such(c)
			return true
		})
	}
	return found
}

// named: the name, or the last name of a selection.
func named(e ast.Expr) string {
	switch x := e.(type) {
	case *ast.Ident:
		return x.Name
	case *ast.SelectorExpr:
		return x.Sel.Name
	}
	return ""
}
