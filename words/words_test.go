package words

import (
	"math"
	"slices"
	"strings"
	"testing"

	"cofferdam/api"
)

// turned moves one bit at a time, so that it shares no reasoning with the code under test: n counts modulo 32 by the remainder, which is exact of every int.
func turned(x uint32, n int) uint32 {
	for range (n%32 + 32) % 32 {
		top := x >> 31
		x = x<<1 | top
	}
	return x
}

// opposite is a number of places that undoes n, also of the least int, which can't be negated.
func opposite(n int) int {
	return 32 - n%32
}

func someWords() []uint32 {
	return []uint32{0, 1, 2, 5, 0x80000000, 0x80000001, 0x7fffffff, 0x12345678, 0xdeadbeef, 0xaaaaaaaa, 0xfffffffe, math.MaxUint32}
}

func somePlaces() []int {
	l := []int{math.MinInt, math.MinInt + 1, math.MinInt + 31, math.MinInt32, math.MinInt32 - 1, math.MaxInt32, math.MaxInt32 + 1, math.MaxUint32, math.MaxUint32 + 2, math.MaxInt - 31, math.MaxInt - 1, math.MaxInt}
	for n := -130; n <= 130; n++ {
		l = append(l, n)
	}
	return l
}

// P1.1
func TestTurnExamples(t *testing.T) {
	for _, c := range []struct {
		x           uint32
		n           int
		left, right uint32
	}{
		{0x80000001, 1, 0x00000003, 0xc0000000},
		{0x12345678, 8, 0x34567812, 0x78123456},
		{0x12345678, 16, 0x56781234, 0x56781234},
		{0x12345678, 0, 0x12345678, 0x12345678},
		{0x12345678, 32, 0x12345678, 0x12345678},
		{0x12345678, -32, 0x12345678, 0x12345678},
		{0x12345678, 64, 0x12345678, 0x12345678},
		{0x00000005, 33, 0x0000000a, 0x80000002},
		{0x00000005, -1, 0x80000002, 0x0000000a},
		{0x00000005, -33, 0x80000002, 0x0000000a},
		{0x00000001, 31, 0x80000000, 0x00000002},
		{0x00000001, math.MinInt, 0x00000001, 0x00000001},
		{0x00000001, math.MaxInt, 0x80000000, 0x00000002},
	} {
		if got := Left(c.x, c.n); got != c.left {
			t.Errorf("P1.1: Left(%08x, %d) is %08x, want %08x", c.x, c.n, got, c.left)
		}
		if got := Right(c.x, c.n); got != c.right {
			t.Errorf("P1.1: Right(%08x, %d) is %08x, want %08x", c.x, c.n, got, c.right)
		}
	}
}

// P1.1
func TestTurnBitByBit(t *testing.T) {
	for _, x := range someWords() {
		for _, n := range somePlaces() {
			if got, want := Left(x, n), turned(x, n); got != want {
				t.Errorf("P1.1: Left(%08x, %d) is %08x, want %08x", x, n, got, want)
			}
			if got, want := Right(x, n), turned(x, opposite(n)); got != want {
				t.Errorf("P1.1: Right(%08x, %d) is %08x, want %08x", x, n, got, want)
			}
			if got := Right(Left(x, n), n); got != x {
				t.Errorf("P1.1: Right of Left(%08x, %d) is %08x", x, n, got)
			}
		}
	}
}

// P1.2
func TestWordsOfTexts(t *testing.T) {
	for _, c := range []struct {
		s           string
		little, big []uint32
	}{
		{"", nil, nil},
		{"\x01\x02\x03\x04", []uint32{0x04030201}, []uint32{0x01020304}},
		{"\x00\x00\x00\x80", []uint32{0x80000000}, []uint32{0x00000080}},
		{"\xff\xff\xff\xff\x00\x00\x00\x00", []uint32{math.MaxUint32, 0}, []uint32{math.MaxUint32, 0}},
		{"\x01\x02\x03\x04\xff\x00\x00\x00\xf0\xe1\xd2\xc3", []uint32{0x04030201, 0xff, 0xc3d2e1f0}, []uint32{0x01020304, 0xff000000, 0xf0e1d2c3}},
	} {
		if l, e := Little(c.s); !slices.Equal(l, c.little) || e != api.OK {
			t.Errorf("P1.2: Little(%q) is %x, %v, want %x", c.s, l, e, c.little)
		}
		if l, e := Big(c.s); !slices.Equal(l, c.big) || e != api.OK {
			t.Errorf("P1.2: Big(%q) is %x, %v, want %x", c.s, l, e, c.big)
		}
		if s := FromLittle(c.little); s != c.s {
			t.Errorf("P1.2: FromLittle(%x) is %q, want %q", c.little, s, c.s)
		}
		if s := FromBig(c.big); s != c.s {
			t.Errorf("P1.2: FromBig(%x) is %q, want %q", c.big, s, c.s)
		}
	}
	if FromLittle([]uint32{}) != "" || FromBig([]uint32{}) != "" {
		t.Error("P1.2: the text of no words isn't empty")
	}
}

// everyByte has each byte, so that none is told for a rune, and each stands at each place of some word.
func everyByte() string {
	var b strings.Builder
	for shift := range 4 {
		for i := range 256 {
			b.WriteByte(byte(i*5 + shift))
		}
	}
	return b.String()
}

// P1.2
func TestWordsThereAndBack(t *testing.T) {
	for _, s := range []string{everyByte(), strings.Repeat(everyByte(), 100)} {
		l, e := Little(s)
		if e != api.OK || len(l) != len(s)/4 || FromLittle(l) != s {
			t.Errorf("P1.2: FromLittle of Little of %d bytes is another text", len(s))
		}
		b, e := Big(s)
		if e != api.OK || len(b) != len(s)/4 || FromBig(b) != s {
			t.Errorf("P1.2: FromBig of Big of %d bytes is another text", len(s))
		}
		for i := range l {
			if want := uint32(s[4*i]) + 256*(uint32(s[4*i+1])+256*(uint32(s[4*i+2])+256*uint32(s[4*i+3]))); l[i] != want {
				t.Fatalf("P1.2: Little: the word %d is %08x, want %08x", i, l[i], want)
			}
			if want := uint32(s[4*i+3]) + 256*(uint32(s[4*i+2])+256*(uint32(s[4*i+1])+256*uint32(s[4*i]))); b[i] != want {
				t.Fatalf("P1.2: Big: the word %d is %08x, want %08x", i, b[i], want)
			}
		}
	}
}

// P1.2
func TestWordsOfWrongLengths(t *testing.T) {
	long := strings.Repeat("\xff", api.MaxText+8)
	for n := range 41 {
		for _, s := range []string{long[:n], long[:api.MaxText-32+n]} {
			want, words := api.OK, len(s)/4
			if len(s)%4 != 0 {
				want, words = api.ErrShape, 0
			}
			if l, e := Little(s); len(l) != words || e != want {
				t.Errorf("P1.2: Little of %d bytes is %d words, %v, want %d, %v", len(s), len(l), e, words, want)
			}
			if l, e := Big(s); len(l) != words || e != want {
				t.Errorf("P1.2: Big of %d bytes is %d words, %v, want %d, %v", len(s), len(l), e, words, want)
			}
		}
	}
}

// Rule 4, of P1.2's calls.
func TestWordsShareNothing(t *testing.T) {
	const s = "\x01\x02\x03\x04\x05\x06\x07\x08"
	for _, words := range []func(string) ([]uint32, api.Errno){Little, Big} {
		a, _ := words(s)
		b, _ := words(s)
		kept := slices.Clone(b)
		for i := range a {
			a[i] = 0
		}
		if c, _ := words(s); !slices.Equal(b, kept) || !slices.Equal(c, kept) {
			t.Error("rule 4: two answers share their memory")
		}
	}
	for _, text := range []func([]uint32) string{FromLittle, FromBig} {
		whole := []uint32{0x01020304, 0x05060708, 0x090a0b0c}
		kept := slices.Clone(whole)
		if got, want := text(whole[:1]), text([]uint32{0x01020304}); got != want {
			t.Errorf("rule 4: what lies behind the list's length was read: %q, want %q", got, want)
		}
		if !slices.Equal(whole, kept) {
			t.Error("rule 4: a list that was handed in was changed")
		}
		got := text(whole)
		before := strings.Clone(got)
		whole[0] = 0
		if got != before {
			t.Error("rule 4: an answer shares its memory with what was handed in")
		}
	}
}

// Ways, layer 1: the words come of the function that is handed in, of all four bytes in their order, and of nothing else.
func TestWordsComeOfTheFunctionHandedIn(t *testing.T) {
	var seen strings.Builder
	l, e := split("abcdefgh", func(b [4]byte) uint32 {
		seen.Write(b[:])
		seen.WriteByte('.')
		return uint32(seen.Len())
	})
	if !slices.Equal(l, []uint32{5, 10}) || e != api.OK || seen.String() != "abcd.efgh." {
		t.Errorf("Ways: %d, %v, of %q", l, e, seen.String())
	}
	asked := 0
	if l, e := split("abcde", func([4]byte) uint32 { asked++; return 0 }); len(l) != 0 || e != api.ErrShape || asked != 0 {
		t.Errorf("Ways: a text of five bytes: %d, %v, %d words made", l, e, asked)
	}
}

// P1.3
func TestXor(t *testing.T) {
	for _, c := range []struct{ a, b, want string }{
		{"", "", ""},
		{"", "x", ""},
		{"\x0f\xff", "\x05", "\x0a"},
		{"\xff\x00\x55", "\x0f\xf0\xaa", "\xf0\xf0\xff"},
		{"abc", "abc", "\x00\x00\x00"},
		{"abc", "\x00\x00\x00\x00\x00", "abc"},
		{"\x80\xc3\xa9\xff", "\xff\xff\xff\xff", "\x7f\x3c\x56\x00"},
	} {
		if got := Xor(c.a, c.b); got != c.want {
			t.Errorf("P1.3: Xor(%q, %q) is %q, want %q", c.a, c.b, got, c.want)
		}
		if got := Xor(c.b, c.a); got != c.want {
			t.Errorf("P1.3: Xor(%q, %q) is %q, want %q", c.b, c.a, got, c.want)
		}
	}
}

// P1.3
func TestXorOfUnlikeLengths(t *testing.T) {
	long := everyByte()
	other := strings.Repeat("\x5a\xa5\xff", len(long))
	for n := range len(long) + 1 {
		for _, got := range []string{Xor(long[:n], other), Xor(other, long[:n])} {
			if len(got) != n {
				t.Fatalf("P1.3: Xor of %d bytes and %d has %d", n, len(other), len(got))
			}
			for i := range n {
				if got[i] != long[i]^other[i] {
					t.Fatalf("P1.3: Xor of %d bytes: the byte %d is %02x", n, i, got[i])
				}
			}
		}
	}
}
