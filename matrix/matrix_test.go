package matrix

import (
	"go/ast"
	"go/parser"
	"go/token"
	"math"
	"slices"
	"strings"
	"testing"

	"cofferdam/api"
)

// product multiplies elements as polynomials and divides by the modulus afterwards: it shares no step with layer 2.
func product(a, b byte) byte {
	wide := 0
	for i := range 8 {
		if b>>i&1 == 1 {
			wide ^= int(a) << i
		}
	}
	for i := 14; i >= 8; i-- {
		if wide>>i&1 == 1 {
			wide ^= 0x11d << (i - 8)
		}
	}
	return byte(wide)
}

// times multiplies matrices by adding up columns, not row by row as the code under test.
func times(a, b Matrix) Matrix {
	m := zeros(len(a), len(b[0]))
	for k := range b {
		for r := range a {
			for c := range b[k] {
				m[r][c] ^= product(a[r][k], b[k][c])
			}
		}
	}
	return m
}

// determinant is told by its first row; it is 0 where there is no inverse.
func determinant(m Matrix) byte {
	if len(m) == 1 {
		return m[0][0]
	}
	var sum byte
	for c, x := range m[0] {
		sum ^= product(x, determinant(without(m, 0, c)))
	}
	return sum
}

// without is a matrix less one row and one column.
func without(m Matrix, row, column int) Matrix {
	var less Matrix
	for r := range m {
		if r != row {
			less = append(less, slices.Delete(slices.Clone(m[r]), column, column+1))
		}
	}
	return less
}

// zeros is a matrix of so many rows and columns; also of numbers that no matrix has.
func zeros(rows, columns int) Matrix {
	m := make(Matrix, rows)
	for r := range m {
		m[r] = make([]byte, columns)
	}
	return m
}

func ones(n int) Matrix {
	m := zeros(n, n)
	for i := range n {
		m[i][i] = 1
	}
	return m
}

// some is a matrix of elements that look like chance, the same in each run.
func some(rows, columns, seed int) Matrix {
	m := zeros(rows, columns)
	x := uint32(seed)*2654435761 + 12345
	for r := range m {
		for c := range m[r] {
			x = x*1664525 + 1013904223
			m[r][c] = byte(x >> 24)
		}
	}
	return m
}

func someText(length, seed int) string {
	b := make([]byte, length)
	x := uint32(seed)*2246822519 + 777
	for i := range b {
		x = x*1664525 + 1013904223
		b[i] = byte(x >> 24)
	}
	return string(b)
}

func same(a, b Matrix) bool {
	return slices.EqualFunc(a, b, func(x, y []byte) bool { return slices.Equal(x, y) })
}

func copied(m Matrix) Matrix {
	var n Matrix
	for _, row := range m {
		n = append(n, slices.Clone(row))
	}
	return n
}

// notMatrices are of all the forms that the document's word rules out.
func notMatrices() map[string]Matrix {
	unlike := func(n, at, length int) Matrix {
		m := zeros(n, n)
		m[at] = make([]byte, length)
		return m
	}
	return map[string]Matrix{
		"nil":                            nil,
		"no rows":                        {},
		"no rows, but behind the length": ones(2)[:0],
		"a nil row":                      {nil},
		"a row of no elements":           {{}},
		"rows of no elements":            {{}, {}, {}},
		"nil rows":                       make(Matrix, api.MaxDim),
		"a short first row":              unlike(3, 0, 2),
		"a long first row":               unlike(3, 0, 4),
		"an empty first row":             unlike(3, 0, 0),
		"a short row in the middle":      unlike(3, 1, 2),
		"an empty row in the middle":     unlike(3, 1, 0),
		"a short last row":               unlike(3, 2, 2),
		"a long last row":                unlike(3, 2, 4),
		"an empty last row":              unlike(16, 15, 0),
		"MaxDim + 1 rows":                zeros(api.MaxDim+1, 1),
		"MaxDim + 1 columns":             zeros(1, api.MaxDim+1),
		"MaxDim + 1 of both":             zeros(api.MaxDim+1, api.MaxDim+1),
		"MaxDim + 1 columns, many rows":  zeros(api.MaxDim, api.MaxDim+1),
		"many rows":                      zeros(100000, 1),
		"many columns":                   zeros(2, 100000),
		"many empty rows":                make(Matrix, 100000),
	}
}

// P3.1
func TestGood(t *testing.T) {
	for name, m := range notMatrices() {
		if m.Good() {
			t.Errorf("P3.1: %s: Good", name)
		}
	}
	for rows := 1; rows <= api.MaxDim; rows++ {
		for columns := 1; columns <= api.MaxDim; columns++ {
			if !zeros(rows, columns).Good() || !some(rows, columns, rows).Good() {
				t.Errorf("P3.1: %d rows of %d elements: not Good", rows, columns)
			}
		}
	}
	row := []byte{1, 2}
	if !(Matrix{row, row}).Good() {
		t.Error("P3.1: the same row twice: not Good")
	}
	if !(Matrix{{1, 2, 3}, {4, 5}})[:1].Good() || !(Matrix{{1, 2}, []byte{3, 4, 5}[:2]}).Good() {
		t.Error("P3.1: what lies behind a length makes a difference")
	}
}

// wrongNumbers aren't from 1 to MaxDim.
func wrongNumbers() []int {
	return []int{math.MinInt, math.MinInt + 1, math.MinInt32, -256, -16, -1, 0, api.MaxDim + 1, api.MaxDim + 2, 256, 257, math.MaxInt32, math.MaxUint32 + 2, math.MaxInt - 1, math.MaxInt}
}

// P3.1
func TestIdentity(t *testing.T) {
	for n := 1; n <= api.MaxDim; n++ {
		if m, e := Identity(n); !same(m, ones(n)) || e != api.OK {
			t.Errorf("P3.1: Identity(%d) is %v, %v", n, m, e)
		}
	}
	for _, n := range wrongNumbers() {
		if m, e := Identity(n); len(m) != 0 || e != api.ErrArg {
			t.Errorf("P3.1: Identity(%d) is %v, %v", n, m, e)
		}
	}
}

// P3.1
func TestVandermonde(t *testing.T) {
	if m, e := Vandermonde(3, 4); !same(m, Matrix{{1, 1, 1, 1}, {1, 2, 4, 8}, {1, 4, 16, 64}}) || e != api.OK {
		t.Errorf("P3.1: Vandermonde(3, 4) is %v, %v", m, e)
	}
	for rows := 1; rows <= api.MaxDim; rows++ {
		for columns := 1; columns <= api.MaxDim; columns++ {
			m, e := Vandermonde(rows, columns)
			if e != api.OK || !same(m, powersOfPowers(rows, columns)) {
				t.Fatalf("P3.1: Vandermonde(%d, %d) is %v, %v", rows, columns, m, e)
			}
		}
	}
	for _, n := range wrongNumbers() {
		for _, c := range [][2]int{{n, 1}, {1, n}, {n, api.MaxDim}, {api.MaxDim, n}, {n, n}, {n, 0}, {0, n}} {
			if m, e := Vandermonde(c[0], c[1]); len(m) != 0 || e != api.ErrArg {
				t.Errorf("P3.1: Vandermonde(%d, %d) is %v, %v", c[0], c[1], m, e)
			}
		}
	}
}

// powersOfPowers counts each power out, from the row's on.
func powersOfPowers(rows, columns int) Matrix {
	m := zeros(rows, columns)
	step := byte(1)
	for r := range m {
		x := byte(1)
		for c := range m[r] {
			m[r][c] = x
			x = product(x, step)
		}
		step = product(step, 2)
	}
	return m
}

// P3.2
func TestMul(t *testing.T) {
	for _, c := range []struct{ a, b, want Matrix }{
		{Matrix{{0}}, Matrix{{7}}, Matrix{{0}}},
		{Matrix{{0x80}}, Matrix{{2}}, Matrix{{0x1d}}},
		{Matrix{{1, 2}, {0, 1}}, Matrix{{3}, {0x80}}, Matrix{{0x1e}, {0x80}}},
		{Matrix{{1, 1}}, Matrix{{5}, {5}}, Matrix{{0}}},
		{Matrix{{2}, {3}}, Matrix{{1, 4}}, Matrix{{2, 8}, {3, 12}}},
		{Matrix{{0, 1}, {1, 0}}, Matrix{{1, 2}, {3, 4}}, Matrix{{3, 4}, {1, 2}}},
		{Matrix{{1, 2}, {3, 4}}, Matrix{{0, 1}, {1, 0}}, Matrix{{2, 1}, {4, 3}}},
		{Matrix{{1, 1}, {1, 2}}, Matrix{{0xf5, 0xf4}, {0xf4, 0xf4}}, ones(2)},
	} {
		if m, e := Mul(c.a, c.b); !same(m, c.want) || e != api.OK {
			t.Errorf("P3.2: Mul(%x, %x) is %x, %v, want %x", c.a, c.b, m, e, c.want)
		}
	}
}

// P3.2: all shapes that fit, and all that don't.
func TestMulOfAllShapes(t *testing.T) {
	l := []int{1, 2, 3, 5, 8, 15, 16}
	for i, rows := range l {
		for j, inner := range l {
			for _, columns := range l {
				a, b := some(rows, inner, i+j), some(inner, columns, i*j+9)
				if m, e := Mul(a, b); !same(m, times(a, b)) || e != api.OK {
					t.Fatalf("P3.2: Mul of %d by %d and %d by %d is %x, %v", rows, inner, inner, columns, m, e)
				}
				other := l[(j+1)%len(l)]
				if m, e := Mul(a, zeros(other, columns)); len(m) != 0 || e != api.ErrShape {
					t.Fatalf("P3.2: Mul of %d by %d and %d by %d is %x, %v", rows, inner, other, columns, m, e)
				}
			}
		}
	}
}

// P3.2: ErrForm is named ahead of ErrShape, so it is answered too where neither shape could fit.
func TestMulOfNoMatrices(t *testing.T) {
	for name, bad := range notMatrices() {
		for _, good := range []Matrix{{{1}}, ones(2), zeros(1, 3), zeros(3, 1), ones(api.MaxDim)} {
			if m, e := Mul(bad, good); len(m) != 0 || e != api.ErrForm {
				t.Errorf("P3.2: Mul of %s and a matrix is %v, %v", name, m, e)
			}
			if m, e := Mul(good, bad); len(m) != 0 || e != api.ErrForm {
				t.Errorf("P3.2: Mul of a matrix and %s is %v, %v", name, m, e)
			}
		}
		for other, worse := range notMatrices() {
			if m, e := Mul(bad, worse); len(m) != 0 || e != api.ErrForm {
				t.Errorf("P3.2: Mul of %s and %s is %v, %v", name, other, m, e)
			}
		}
	}
}

// P3.3
func TestInvert(t *testing.T) {
	for _, c := range []struct {
		a, want Matrix
		e       api.Errno
	}{
		{Matrix{{1, 1}, {1, 2}}, Matrix{{0xf5, 0xf4}, {0xf4, 0xf4}}, api.OK},
		{Matrix{{1}}, Matrix{{1}}, api.OK},
		{Matrix{{2}}, Matrix{{0x8e}}, api.OK},
		{Matrix{{0}}, nil, api.ErrZero},
		{Matrix{{0, 1}, {1, 0}}, Matrix{{0, 1}, {1, 0}}, api.OK},
		{Matrix{{0, 2}, {1, 0}}, Matrix{{0, 1}, {0x8e, 0}}, api.OK},
		{Matrix{{0, 1, 0}, {0, 0, 1}, {1, 0, 0}}, Matrix{{0, 0, 1}, {1, 0, 0}, {0, 1, 0}}, api.OK},
		{Matrix{{0, 0, 1}, {0, 1, 0}, {1, 0, 0}}, Matrix{{0, 0, 1}, {0, 1, 0}, {1, 0, 0}}, api.OK},
		{Matrix{{1, 1, 0}, {1, 1, 1}, {0, 1, 1}}, Matrix{{0, 1, 1}, {1, 1, 1}, {1, 1, 0}}, api.OK},
		{Matrix{{1, 2}, {1, 2}}, nil, api.ErrZero},
		{Matrix{{1, 2}, {2, 4}}, nil, api.ErrZero},
		{Matrix{{0, 1}, {0, 2}}, nil, api.ErrZero},
		{Matrix{{0, 0}, {1, 2}}, nil, api.ErrZero},
		{Matrix{{0, 0}, {0, 0}}, nil, api.ErrZero},
		{Matrix{{1, 0, 1}, {0, 1, 1}, {1, 1, 0}}, nil, api.ErrZero},
	} {
		if m, e := Invert(c.a); !same(m, c.want) || e != c.e {
			t.Errorf("P3.3: Invert(%x) is %x, %v, want %x, %v", c.a, m, e, c.want, c.e)
		}
	}
}

// checkInverse holds what Invert answers of a square matrix against whether there is an inverse, and what it must be.
func checkInverse(t *testing.T, a Matrix, has bool) {
	t.Helper()
	m, e := Invert(a)
	if !has {
		if len(m) != 0 || e != api.ErrZero {
			t.Fatalf("P3.3: Invert(%x), of which there is no inverse, is %x, %v", a, m, e)
		}
		return
	}
	if e != api.OK || len(m) != len(a) || !m.Good() || !same(times(m, a), ones(len(a))) || !same(times(a, m), ones(len(a))) {
		t.Fatalf("P3.3: Invert(%x) is %x, %v", a, m, e)
	}
}

// P3.3: of all small matrices of few elements: of all of one row, of two of six elements, of three of two, and some of four.
func TestInvertOfAllSmall(t *testing.T) {
	for x := range 256 {
		checkInverse(t, Matrix{{byte(x)}}, x != 0)
	}
	for _, c := range []struct {
		n        int
		elements []byte
		few      int
	}{{2, []byte{0, 1, 2, 3, 0x8e, 0xff}, 1}, {3, []byte{0, 1}, 1}, {3, []byte{0, 1, 2}, 7}, {4, []byte{0, 1}, 11}} {
		count := 1
		for range c.n * c.n {
			count *= len(c.elements)
		}
		for i := 0; i < count; i += c.few {
			a := zeros(c.n, c.n)
			rest := i
			for at := range c.n * c.n {
				a[at/c.n][at%c.n] = c.elements[rest%len(c.elements)]
				rest /= len(c.elements)
			}
			checkInverse(t, a, determinant(a) != 0)
		}
	}
}

// P3.3: of each number of rows, a matrix that has an inverse is made out of a lower and an upper one without 0 in their middle; with rows changed about, its first elements are 0 too. One row that is made of others takes the inverse away.
func TestInvertOfEachSize(t *testing.T) {
	for n := 1; n <= api.MaxDim; n++ {
		for seed := range 6 {
			a := withInverse(n, seed)
			checkInverse(t, a, true)
			checkInverse(t, turnedRows(a, seed), true)
			if n == 1 {
				continue
			}
			shifted := turnedRows(ones(n), 1+seed%(n-1))
			if shifted[0][0] != 0 {
				t.Fatal("the first element isn't 0")
			}
			checkInverse(t, shifted, true)
			for _, at := range []int{0, n / 2, n - 1} {
				checkInverse(t, dependent(a, at), false)
				checkInverse(t, flipped(dependent(a, at)), false)
			}
		}
	}
}

func withInverse(n, seed int) Matrix {
	low, up := some(n, n, seed), some(n, n, seed+100)
	for r := range n {
		for c := range n {
			if c > r {
				low[r][c] = 0
			}
			if c < r {
				up[r][c] = 0
			}
		}
		low[r][r] |= 1
		up[r][r] |= 4
	}
	return times(low, up)
}

func turnedRows(m Matrix, by int) Matrix {
	by %= len(m)
	return append(copied(m[by:]), copied(m[:by])...)
}

func flipped(m Matrix) Matrix {
	n := zeros(len(m[0]), len(m))
	for r := range m {
		for c := range m[r] {
			n[c][r] = m[r][c]
		}
	}
	return n
}

// dependent puts in the place of one row the sum of multiples of the others.
func dependent(m Matrix, at int) Matrix {
	n := copied(m)
	clear(n[at])
	for r := range m {
		for c := range m[r] {
			if r != at {
				n[at][c] ^= product(byte(r+3), m[r][c])
			}
		}
	}
	return n
}

// P3.3: the Identity and Vandermonde's matrices.
func TestInvertOfMade(t *testing.T) {
	for n := 1; n <= api.MaxDim; n++ {
		m, _ := Identity(n)
		if got, e := Invert(m); !same(got, m) || e != api.OK {
			t.Errorf("P3.3: the inverse of Identity(%d) is %v, %v", n, got, e)
		}
		v, _ := Vandermonde(n, n)
		checkInverse(t, v, true)
		back, _ := Invert(v)
		if again, e := Invert(back); !same(again, v) || e != api.OK {
			t.Errorf("P3.3: the inverse of the inverse of Vandermonde(%d, %d) is %v, %v", n, n, again, e)
		}
		checkInverse(t, zeros(n, n), false)
	}
}

// P3.3: ErrForm ahead of ErrShape ahead of ErrZero.
func TestInvertRefuses(t *testing.T) {
	for name, bad := range notMatrices() {
		if m, e := Invert(bad); len(m) != 0 || e != api.ErrForm {
			t.Errorf("P3.3: Invert of %s is %v, %v", name, m, e)
		}
	}
	for rows := 1; rows <= api.MaxDim; rows++ {
		for columns := 1; columns <= api.MaxDim; columns++ {
			if rows == columns {
				continue
			}
			for _, a := range []Matrix{zeros(rows, columns), some(rows, columns, rows*columns)} {
				if m, e := Invert(a); len(m) != 0 || e != api.ErrShape {
					t.Errorf("P3.3: Invert of %d by %d is %v, %v", rows, columns, m, e)
				}
			}
		}
	}
}

// P3.4
func TestApply(t *testing.T) {
	for _, c := range []struct {
		a       Matrix
		l, want []string
	}{
		{Matrix{{1, 2}, {0, 1}}, []string{"\x03\x01", "\x80\x00"}, []string{"\x1e\x01", "\x80\x00"}},
		{Matrix{{1}}, []string{""}, []string{""}},
		{Matrix{{1, 2, 3}}, []string{"", "", ""}, []string{""}},
		{Matrix{{1}, {2}, {3}}, []string{""}, []string{"", "", ""}},
		{Matrix{{1}}, []string{"abc"}, []string{"abc"}},
		{Matrix{{0}}, []string{"abc"}, []string{"\x00\x00\x00"}},
		{Matrix{{2}}, []string{"\x80\xff"}, []string{"\x1d\xe3"}},
		{Matrix{{1, 1}}, []string{"\xc3\xa9", "\xc3\xa9"}, []string{"\x00\x00"}},
		{Matrix{{0, 1}, {1, 0}}, []string{"ab", "cd"}, []string{"cd", "ab"}},
		{Matrix{{1, 0}, {0, 1}, {1, 1}}, []string{"\x00\xff", "\x0f\xf0"}, []string{"\x00\xff", "\x0f\xf0", "\x0f\x0f"}},
	} {
		if l, e := Apply(c.a, c.l); !slices.Equal(l, c.want) || e != api.OK {
			t.Errorf("P3.4: Apply(%x, %q) is %q, %v, want %q", c.a, c.l, l, e, c.want)
		}
	}
}

func someTexts(count, length int) []string {
	l := make([]string, count)
	for i := range l {
		l[i] = someText(length, i+count)
	}
	return l
}

// checkApply works out each byte of each text by itself.
func checkApply(t *testing.T, a Matrix, l []string) {
	t.Helper()
	got, e := Apply(a, l)
	if e != api.OK || len(got) != len(a) {
		t.Fatalf("P3.4: Apply of %d by %d on texts of %d bytes has %d texts, %v", len(a), len(a[0]), len(l[0]), len(got), e)
	}
	for r, s := range got {
		want := make([]byte, len(l[0]))
		for c, x := range a[r] {
			for i := range want {
				want[i] ^= product(x, l[c][i])
			}
		}
		if s != string(want) {
			t.Fatalf("P3.4: Apply of %d by %d on texts of %d bytes: wrong text %d", len(a), len(a[0]), len(l[0]), r)
		}
	}
}

// P3.4
func TestApplyOfAllShapes(t *testing.T) {
	for rows := 1; rows <= api.MaxDim; rows++ {
		for columns := 1; columns <= api.MaxDim; columns++ {
			for _, length := range []int{0, 1, 2, 3, 4, 5, 33} {
				checkApply(t, some(rows, columns, rows*length), someTexts(columns, length))
			}
		}
	}
}

// P3.4
func TestApplyOfLongTexts(t *testing.T) {
	for _, length := range []int{api.MaxText - 1, api.MaxText} {
		checkApply(t, Matrix{{3}}, someTexts(1, length))
		checkApply(t, some(2, 3, 5), someTexts(3, length))
		checkApply(t, some(api.MaxDim, api.MaxDim, 6), someTexts(api.MaxDim, length))
	}
	for _, length := range []int{api.MaxText + 1, api.MaxText + 2, 2 * api.MaxText, 1 << 20} {
		for _, n := range []int{1, 2, api.MaxDim} {
			l, e := Apply(ones(n), slices.Repeat([]string{strings.Repeat("x", length)}, n))
			if len(l) != 0 || e != api.ErrLong {
				t.Errorf("P3.4: Apply of %d texts of %d bytes has %d texts, %v", n, length, len(l), e)
			}
		}
	}
}

// P3.4: ErrForm ahead of ErrShape ahead of ErrLong.
func TestApplyRefuses(t *testing.T) {
	long := strings.Repeat("x", api.MaxText+1)
	for name, bad := range notMatrices() {
		for _, l := range [][]string{nil, {}, {""}, {"a"}, {"a", "b"}, {"a", "bc"}, {"ab", "cd", "ef"}, {long}} {
			if got, e := Apply(bad, l); len(got) != 0 || e != api.ErrForm {
				t.Errorf("P3.4: Apply of %s on %d texts is %q, %v", name, len(l), got, e)
			}
		}
	}
	for _, c := range []struct {
		columns int
		l       []string
	}{
		{1, nil},
		{1, []string{}},
		{1, []string{"a"}[:0]},
		{1, []string{"", ""}},
		{1, []string{"a", "b"}},
		{1, []string{long, long}},
		{2, nil},
		{2, []string{"a"}},
		{2, []string{""}},
		{2, []string{long}},
		{2, []string{"a", "b", "c"}},
		{2, []string{"a", "bc"}},
		{2, []string{"ab", "c"}},
		{2, []string{"", "c"}},
		{2, []string{"a", ""}},
		{2, []string{long, "c"}},
		{2, []string{"a", long}},
		{2, []string{long, long + "x"}},
		{2, []string{long, long[1:]}},
		{3, []string{"a", "b", "cd"}},
		{3, []string{"a", "bc", "d"}},
		{3, []string{"ab", "c", "d"}},
		{3, []string{"a", "b", long}},
		{16, slices.Repeat([]string{"a"}, 15)},
		{16, slices.Repeat([]string{"a"}, 17)},
		{16, slices.Repeat([]string{"a"}, 100000)},
		{16, append(slices.Repeat([]string{"a"}, 15), "ab")},
	} {
		for _, rows := range []int{1, 2, api.MaxDim} {
			if got, e := Apply(some(rows, c.columns, 1), c.l); len(got) != 0 || e != api.ErrShape {
				t.Errorf("P3.4: Apply of %d by %d on %d texts is %q, %v", rows, c.columns, len(c.l), got, e)
			}
		}
	}
}

// within lays a matrix into one piece of memory, with bytes between the rows and rows behind the last, so that what is written where it mustn't is seen.
func within(m Matrix) (Matrix, []byte) {
	var memory []byte
	for _, row := range m {
		memory = append(append(memory, row...), 0xa5, 0x5a)
	}
	var in Matrix
	at := 0
	for _, row := range m {
		in = append(in, memory[at:at+len(row)])
		at += len(row) + 2
	}
	in = append(in, memory, nil)
	return in[:len(m)], memory
}

// checkOwn holds rule 4 of the document: no row of an answer shares memory with another one, or has something to show behind its length.
func checkOwn(t *testing.T, name string, m Matrix) {
	t.Helper()
	before := copied(m)
	for r := range m {
		for _, x := range m[r][len(m[r]):cap(m[r])] {
			if x != 0 {
				t.Errorf("%s: something lies behind the length of row %d", name, r)
			}
		}
		_ = append(m[r], 0xee, 0xee, 0xee)
		if !same(m, before) {
			t.Errorf("%s: what is put behind row %d is seen in another", name, r)
		}
		for c := range m[r] {
			m[r][c] ^= 0xff
		}
		before[r] = slices.Clone(m[r])
		if !same(m, before) {
			t.Errorf("%s: row %d shares memory with another", name, r)
		}
	}
	for _, row := range m[len(m):cap(m)] {
		if len(row) != 0 {
			t.Errorf("%s: something lies behind the rows", name)
		}
	}
}

// Rule 4 of the document, of each call: what is handed in is left as it was, also behind its length; what is answered is new.
func TestMemory(t *testing.T) {
	for _, n := range []int{1, 2, 3, 7, 16} {
		plain := withInverse(n, n)
		if n > 1 {
			plain = turnedRows(plain, 1)
		}
		a, memory := within(plain)
		kept := slices.Clone(memory)
		untouched := func(call string) {
			t.Helper()
			behind := a[:n+2]
			if !slices.Equal(memory, kept) || !same(a, plain) || &behind[n][0] != &memory[0] || behind[n+1] != nil {
				t.Fatalf("%s changed what was handed in, or answered memory of it", call)
			}
		}
		a.Good()
		untouched("Good")
		m, _ := Mul(a, a)
		if !same(m, times(plain, plain)) {
			t.Error("P3.2: a matrix times itself")
		}
		checkOwn(t, "Mul", m)
		untouched("Mul")
		m, _ = Mul(a, ones(n))
		checkOwn(t, "Mul", m)
		untouched("Mul by the Identity")
		m, _ = Invert(a)
		checkOwn(t, "Invert", m)
		untouched("Invert")
		texts := append(someTexts(n, 4), "behind")
		list := slices.Clone(texts)
		got, _ := Apply(a, list[:n])
		for i := range got {
			got[i] = ""
		}
		untouched("Apply")
		if !slices.Equal(list, texts) {
			t.Error("Apply changed the texts that were handed in")
		}
		m, _ = Identity(n)
		checkOwn(t, "Identity", m)
		m, _ = Vandermonde(n, n)
		checkOwn(t, "Vandermonde", m)
	}
}

// Rule 4: the same, of calls that are refused.
func TestMemoryOfRefused(t *testing.T) {
	for _, plain := range []Matrix{{{1, 2}, {1, 2}}, {{0, 0, 1}, {0, 0, 2}, {3, 4, 5}}, {{1, 2}, {3}}, {{1, 2, 3}, {4, 5, 6}}, dependent(withInverse(16, 1), 7)} {
		a, memory := within(plain)
		kept := slices.Clone(memory)
		Invert(a)
		Mul(a, Matrix{{1}})
		Mul(Matrix{{1}}, a)
		Apply(a, []string{"a", "bc"})
		a.Good()
		if !slices.Equal(memory, kept) || !same(a, plain) {
			t.Errorf("refused calls changed %x", plain)
		}
	}
}

// Rule 4, P2 and rule 7: rows that are one and the same memory are worked on apart; the answers of two calls are alike and share nothing.
func TestAnswersAreApart(t *testing.T) {
	row := []byte{1, 2}
	if m, e := Mul(Matrix{row, row}, Matrix{{1, 0}, {0, 1}}); !same(m, Matrix{{1, 2}, {1, 2}}) || e != api.OK {
		t.Errorf("P3.2: the same row twice: %v, %v", m, e)
	}
	if m, e := Invert(Matrix{row, row}); len(m) != 0 || e != api.ErrZero {
		t.Errorf("P3.3: the same row twice: %v, %v", m, e)
	}
	for name, call := range map[string]func() (Matrix, api.Errno){
		"Identity":    func() (Matrix, api.Errno) { return Identity(3) },
		"Vandermonde": func() (Matrix, api.Errno) { return Vandermonde(3, 2) },
		"Mul":         func() (Matrix, api.Errno) { return Mul(some(3, 2, 1), some(2, 3, 2)) },
		"Invert":      func() (Matrix, api.Errno) { return Invert(withInverse(3, 3)) },
	} {
		first, e := call()
		before := copied(first)
		second, f := call()
		if !same(first, second) || e != api.OK || f != api.OK {
			t.Errorf("rule 7: %s: %v and %v, %v and %v", name, first, second, e, f)
		}
		for r := range first {
			clear(first[r])
		}
		third, _ := call()
		if !same(second, before) || !same(third, before) {
			t.Errorf("rule 4: %s: two answers share memory", name)
		}
	}
}

// Ways, layer 3: in matrix.go rows are handed to a function literal, they are copied, and halves are cut off by an expression of three indices.
func TestWays(t *testing.T) {
	file, err := parser.ParseFile(token.NewFileSet(), "matrix.go", nil, 0)
	if err != nil {
		t.Fatal(err)
	}
	closure, copies, three := false, false, false
	ast.Inspect(file, func(n ast.Node) bool {
		switch x := n.(type) {
		case *ast.FuncLit:
			closure = closure || takesRow(x)
		case *ast.CallExpr:
			f, ok := x.Fun.(*ast.Ident)
			copies = copies || ok && f.Name == "copy"
		case *ast.SliceExpr:
			three = three || x.Slice3
		}
		return true
	})
	if !closure || !copies || !three {
		t.Errorf("Ways: rows looked at by a closure: %t, copied: %t, halves cut off by three indices: %t", closure, copies, three)
	}
}

// takesRow: is the first thing that the function takes a row of bytes?
func takesRow(f *ast.FuncLit) bool {
	if len(f.Type.Params.List) == 0 {
		return false
	}
	list, ok := f.Type.Params.List[0].Type.(*ast.ArrayType)
	if !ok || list.Len != nil {
		return false
	}
	element, ok := list.Elt.(*ast.Ident)
	return ok && element.Name == "byte"
}
