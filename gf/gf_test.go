package gf

import (
	"math"
	"strings"
	"testing"

	"cofferdam/api"
)

// product multiplies as the document says it, as polynomials, and divides by the modulus afterwards: it shares no step with the code under test, which doubles and reduces as it goes.
func product(a, b byte) byte {
	wide := 0
	for i := range 8 {
		if b>>i&1 == 1 {
			wide ^= int(a) << i
		}
	}
	for i := 14; i >= 8; i-- {
		if wide>>i&1 == 1 {
			wide ^= 0x11d << (i - 8)
		}
	}
	return byte(wide)
}

// inverse is found by trying all elements; 0 has none.
func inverse(a byte) byte {
	for b := range 256 {
		if product(a, byte(b)) == 1 {
			return byte(b)
		}
	}
	return 0
}

// power counts out its factors one by one; n is small.
func power(a byte, n int) byte {
	if n < 0 {
		a, n = inverse(a), -n
	}
	p := byte(1)
	for range n {
		p = product(p, a)
	}
	return p
}

// farExponents are beyond what can be counted out, each with the exponent from 0 to 254 that differs from it by a multiple of 255: of 2^63, 128, since 2^8 and so 2^56 is 1 more than such a multiple.
func farExponents() map[int]int {
	return map[int]int{
		math.MaxInt:      127,
		math.MaxInt - 1:  126,
		math.MinInt:      255 - 128,
		math.MinInt + 1:  255 - 127,
		math.MaxInt32:    127,
		math.MinInt32:    255 - 128,
		math.MaxUint32:   0,
		255 * 1000000007: 0,
		255*1000003 + 7:  7,
		-255*1000003 - 7: 248,
		-255 * 99999999:  0,
		1 << 40:          1,
		-(1 << 40):       254,
	}
}

func everyElement() string {
	var b strings.Builder
	for i := range 256 {
		b.WriteByte(byte(i))
	}
	return b.String()
}

// P2.1
func TestExamples(t *testing.T) {
	for _, c := range []struct{ got, want byte }{
		{Add(0, 0), 0},
		{Add(0x53, 0xca), 0x99},
		{Add(0xff, 0xff), 0},
		{Add(0, 0x80), 0x80},
		{Mul(0x80, 2), 0x1d},
		{Mul(2, 0x80), 0x1d},
		{Mul(0, 0), 0},
		{Mul(0, 7), 0},
		{Mul(7, 0), 0},
		{Mul(0xff, 1), 0xff},
		{Mul(0xff, 0xff), 0xe2},
		{Mul(3, 3), 5},
		{Pow(2, 8), 0x1d},
		{Pow(2, 254), 0x8e},
		{Pow(2, 255), 1},
		{Pow(2, -1), 0x8e},
		{Pow(2, -255), 1},
		{Pow(0xff, 2), 0xe2},
	} {
		if c.got != c.want {
			t.Errorf("P2.1: %02x, want %02x", c.got, c.want)
		}
	}
}

// P2.1
func TestSumsAndProducts(t *testing.T) {
	for i := range 256 {
		for j := range 256 {
			a, b := byte(i), byte(j)
			if got := Add(a, b); got != (a|b)&^(a&b) {
				t.Fatalf("P2.1: Add(%02x, %02x) is %02x", a, b, got)
			}
			if got, want := Mul(a, b), product(a, b); got != want {
				t.Fatalf("P2.1: Mul(%02x, %02x) is %02x, want %02x", a, b, got, want)
			}
		}
	}
}

// P2.1
func TestPow(t *testing.T) {
	for i := range 256 {
		a := byte(i)
		for n := -520; n <= 520; n++ {
			want := power(a, n)
			if got := Pow(a, n); got != want {
				t.Fatalf("P2.1: Pow(%02x, %d) is %02x, want %02x", a, n, got, want)
			}
		}
	}
}

// P2.1
func TestPowOfFarExponents(t *testing.T) {
	for n, near := range farExponents() {
		for i := 1; i < 256; i++ {
			a := byte(i)
			if got, want := Pow(a, n), power(a, near); got != want {
				t.Errorf("P2.1: Pow(%02x, %d) is %02x, want %02x", a, n, got, want)
			}
		}
	}
}

// P2.1: 0 to each power; those that are multiples of 255 are 0 too, but the one of exponent 0.
func TestPowOfZeroAndToZero(t *testing.T) {
	for n := range farExponents() {
		if got := Pow(0, n); got != 0 {
			t.Errorf("P2.1: Pow(0, %d) is %02x, want 0", n, got)
		}
	}
	for _, n := range []int{1, 2, 5, 254, 255, 256, 510, -1, -3, -254, -255, -256, -510} {
		if got := Pow(0, n); got != 0 {
			t.Errorf("P2.1: Pow(0, %d) is %02x, want 0", n, got)
		}
	}
	for i := range 256 {
		if got := Pow(byte(i), 0); got != 1 {
			t.Errorf("P2.1: Pow(%02x, 0) is %02x, want 1", i, got)
		}
		if got := Pow(byte(i), 1); got != byte(i) {
			t.Errorf("P2.1: Pow(%02x, 1) is %02x", i, got)
		}
	}
}

// P2.1
func TestScale(t *testing.T) {
	for _, c := range []struct {
		a       byte
		s, want string
	}{
		{2, "", ""},
		{0, "", ""},
		{2, "\x80\x01\x00", "\x1d\x02\x00"},
		{0, "\xff\x01\x00", "\x00\x00\x00"},
		{1, "\xc3\xa9\xff\x00", "\xc3\xa9\xff\x00"},
		{0xff, "\xff", "\xe2"},
	} {
		if got := Scale(c.a, c.s); got != c.want {
			t.Errorf("P2.1: Scale(%02x, %q) is %q, want %q", c.a, c.s, got, c.want)
		}
	}
	long := strings.Repeat(everyElement(), api.MaxText/256+1)
	for i := range 256 {
		s := everyElement()
		if i == 0x1d {
			s = long
		}
		got := Scale(byte(i), s)
		if len(got) != len(s) {
			t.Fatalf("P2.1: Scale(%02x, ..) of %d bytes has %d", i, len(s), len(got))
		}
		for j := range len(s) {
			if got[j] != product(byte(i), s[j]) {
				t.Fatalf("P2.1: Scale(%02x, ..): the byte %d is %02x", i, j, got[j])
			}
		}
	}
}

// P2.2
func TestInv(t *testing.T) {
	if b, e := Inv(0); b != 0 || e != api.ErrZero {
		t.Errorf("P2.2: Inv(0) is %02x, %v", b, e)
	}
	if b, e := Inv(1); b != 1 || e != api.OK {
		t.Errorf("P2.2: Inv(1) is %02x, %v", b, e)
	}
	if b, e := Inv(2); b != 0x8e || e != api.OK {
		t.Errorf("P2.2: Inv(2) is %02x, %v", b, e)
	}
	for i := 1; i < 256; i++ {
		if b, e := Inv(byte(i)); b != inverse(byte(i)) || product(byte(i), b) != 1 || e != api.OK {
			t.Errorf("P2.2: Inv(%02x) is %02x, %v", i, b, e)
		}
	}
}

// P2.3
func TestLog(t *testing.T) {
	x := New()
	if n, e := x.Log(0); n != 0 || e != api.ErrZero {
		t.Errorf("P2.3: Log(0) is %d, %v", n, e)
	}
	for _, c := range []struct {
		a byte
		n int
	}{{1, 0}, {2, 1}, {0x80, 7}, {0x1d, 8}, {0x8e, 254}} {
		if n, e := x.Log(c.a); n != c.n || e != api.OK {
			t.Errorf("P2.3: Log(%02x) is %d, %v, want %d", c.a, n, e, c.n)
		}
	}
	seen := [255]bool{}
	for i := 1; i < 256; i++ {
		n, e := x.Log(byte(i))
		if e != api.OK || n < 0 || n > 254 || seen[n] || power(2, n) != byte(i) {
			t.Fatalf("P2.3: Log(%02x) is %d, %v", i, n, e)
		}
		seen[n] = true
	}
}

// P2.3
func TestExp(t *testing.T) {
	x := New()
	for n := -1100; n <= 1100; n++ {
		if got, want := x.Exp(n), power(2, n); got != want || Pow(2, n) != want {
			t.Errorf("P2.3: Exp(%d) is %02x, want %02x", n, got, want)
		}
	}
	for n, near := range farExponents() {
		if got, want := x.Exp(n), power(2, near); got != want || Pow(2, n) != want {
			t.Errorf("P2.3: Exp(%d) is %02x, want %02x", n, got, want)
		}
	}
}

// P2.3
func TestMulAndDivByTheTables(t *testing.T) {
	x := New()
	for i := range 256 {
		over := inverse(byte(i))
		for j := range 256 {
			a, b := byte(j), byte(i)
			if got, want := x.Mul(a, b), product(a, b); got != want {
				t.Fatalf("P2.3: Mul(%02x, %02x) is %02x, want %02x", a, b, got, want)
			}
			want, fault := product(a, over), api.OK
			if b == 0 {
				want, fault = 0, api.ErrZero
			}
			if q, e := x.Div(a, b); q != want || e != fault {
				t.Fatalf("P2.3: Div(%02x, %02x) is %02x, %v, want %02x, %v", a, b, q, e, want, fault)
			}
		}
	}
}

// P2.3, and P1 of the document: also where the element that is handed in would be an error of its own.
func TestNilTable(t *testing.T) {
	var x *Table
	for _, a := range []byte{0, 1, 2, 0xff} {
		if n, e := x.Log(a); n != 0 || e != api.ErrNil {
			t.Errorf("P2.3: Log(%02x) of a nil table is %d, %v", a, n, e)
		}
		for _, b := range []byte{0, 1, 0x8e} {
			if q, e := x.Div(a, b); q != 0 || e != api.ErrNil {
				t.Errorf("P2.3: Div(%02x, %02x) of a nil table is %02x, %v", a, b, q, e)
			}
			if p := x.Mul(a, b); p != 0 {
				t.Errorf("P2.3: Mul(%02x, %02x) of a nil table is %02x", a, b, p)
			}
		}
	}
	for _, n := range []int{0, 1, -1, 255, math.MinInt, math.MaxInt} {
		if p := x.Exp(n); p != 0 {
			t.Errorf("P2.3: Exp(%d) of a nil table is %02x", n, p)
		}
	}
}

// Ways, layer 2: the calls of a table are told by the two arrays of it. P2 of the document: what one has, no other one has.
func TestTablesStandInArraysOfTheObject(t *testing.T) {
	x, y := New(), New()
	for n := range 255 {
		if p := power(2, n); x.exp[n] != p || x.log[p] != n {
			t.Errorf("Ways: the tables at %d and %02x hold %02x and %d", n, p, x.exp[n], x.log[p])
		}
	}
	if *x != *y {
		t.Error("P2.3: two tables are unlike")
	}
	copied := *x
	x.exp[8], x.log[0x1d] = 7, 100
	if n, _ := x.Log(0x1d); x.Exp(8) != 7 || n != 100 {
		t.Error("Ways: Log and Exp are not told by the arrays")
	}
	if n, _ := y.Log(0x1d); y.Exp(8) != 0x1d || n != 8 {
		t.Error("P2: two tables that were made apart share their memory")
	}
	if n, _ := copied.Log(0x1d); copied.Exp(8) != 0x1d || n != 8 {
		t.Error("Ways: a copy of a table shares its memory, so that it isn't made of arrays")
	}
}

// P2.4: all pairs and triples; the products are told once each, of Mul and of a table, so that 256 times 256 times 256 of them can be looked at.
func TestFieldLaws(t *testing.T) {
	x := New()
	for _, mul := range []func(a, b byte) byte{Mul, x.Mul} {
		var p [256][256]byte
		for i := range 256 {
			for j := range 256 {
				p[i][j] = mul(byte(i), byte(j))
			}
		}
		checkPairs(t, &p)
		checkTriples(t, &p)
	}
}

func checkPairs(t *testing.T, p *[256][256]byte) {
	for i := range 256 {
		a := byte(i)
		if Add(a, 0) != a || Add(a, a) != 0 || p[i][1] != a || p[i][0] != 0 {
			t.Fatalf("P2.4: %02x with 0, 1 or itself", i)
		}
		for j := range 256 {
			if Add(a, byte(j)) != Add(byte(j), a) || p[i][j] != p[j][i] {
				t.Fatalf("P2.4: the order of %02x and %02x matters", i, j)
			}
			if i != 0 && j != 0 && p[i][j] == 0 {
				t.Fatalf("P2.4: the product of %02x and %02x is 0", i, j)
			}
		}
	}
}

func checkTriples(t *testing.T, p *[256][256]byte) {
	for i := range 256 {
		for j := range 256 {
			for k := range 256 {
				a, b, c := byte(i), byte(j), byte(k)
				if Add(Add(a, b), c) != Add(a, Add(b, c)) {
					t.Fatalf("P2.4: the sum of %02x, %02x, %02x hangs on how it is put together", a, b, c)
				}
				if p[p[i][j]][k] != p[i][p[j][k]] {
					t.Fatalf("P2.4: the product of %02x, %02x, %02x hangs on how it is put together", a, b, c)
				}
				if p[i][Add(b, c)] != Add(p[i][j], p[i][k]) {
					t.Fatalf("P2.4: %02x times the sum of %02x and %02x isn't the sum of the products", a, b, c)
				}
			}
		}
	}
}
