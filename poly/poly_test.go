package poly

import (
	"encoding/hex"
	"math/big"
	"slices"
	"strings"
	"testing"

	"cofferdam/api"
)

const (
	zeroHalf = "\x00\x00\x00\x00\x00\x00\x00\x00\x00\x00\x00\x00\x00\x00\x00\x00"
	fullHalf = "\xff\xff\xff\xff\xff\xff\xff\xff\xff\xff\xff\xff\xff\xff\xff\xff"
	oneHalf  = "\x01\x00\x00\x00\x00\x00\x00\x00\x00\x00\x00\x00\x00\x00\x00\x00"
	twoHalf  = "\x02\x00\x00\x00\x00\x00\x00\x00\x00\x00\x00\x00\x00\x00\x00\x00"
)

// power is 2^n, and less a number below it.
func power(n uint, less int64) *big.Int {
	x := new(big.Int).Lsh(big.NewInt(1), n)
	return x.Sub(x, big.NewInt(less))
}

// prime is what all is reckoned modulo of.
func prime() *big.Int {
	return power(130, 5)
}

// valueOf is the number of a text, by the library's numbers.
func valueOf(s string) *big.Int {
	b := []byte(s)
	slices.Reverse(b)
	return new(big.Int).SetBytes(b)
}

// textOf is the lowest 16 bytes of a number that isn't below 0.
func textOf(x *big.Int) string {
	b := new(big.Int).Mod(x, power(128, 0)).FillBytes(make([]byte, 16))
	slices.Reverse(b)
	return string(b)
}

// wantClamp tells it bit by bit, as the document lists the bits.
func wantClamp(r string) string {
	b := []byte(r)
	for _, i := range []int{3, 7, 11, 15} {
		b[i] %= 16
	}
	for _, i := range []int{4, 8, 12} {
		b[i] -= b[i] % 4
	}
	return string(b)
}

// wantSum is the document's sentence, by the library's numbers.
func wantSum(key, s string) string {
	r, sum := valueOf(wantClamp(key[:16])), new(big.Int)
	for len(s) > 0 {
		n := min(16, len(s))
		sum.Add(sum, valueOf(s[:n]+"\x01"))
		sum.Mul(sum, r)
		sum.Mod(sum, prime())
		s = s[n:]
	}
	return textOf(sum.Add(sum, valueOf(key[16:])))
}

// someText looks like chance, and is the same in each run.
func someText(length, seed int) string {
	b := make([]byte, length)
	x := uint32(seed)*2246822519 + 777
	for i := range b {
		x = x*1664525 + 1013904223
		b[i] = byte(x >> 24)
	}
	return string(b)
}

func bytesOf(t *testing.T, sixteens string) string {
	t.Helper()
	b, err := hex.DecodeString(sixteens)
	if err != nil {
		t.Fatal(err)
	}
	return string(b)
}

// mustSum is what Sum answers where no error is due.
func mustSum(t *testing.T, key, s string) string {
	t.Helper()
	got, e := Sum(key, s)
	if e != api.OK || len(got) != 16 {
		t.Fatalf("P7.2: the tag of %d bytes: %d bytes, error %d", len(s), len(got), e)
	}
	return got
}

// holdSum holds Sum against the library's numbers.
func holdSum(t *testing.T, key, s string) {
	t.Helper()
	if got, want := mustSum(t, key, s), wantSum(key, s); got != want {
		t.Fatalf("P7.2: the key %x, %d bytes that begin with %x: %x, want %x", key, len(s), s[:min(48, len(s))], got, want)
	}
}

// holdClamp likewise, of Clamp.
func holdClamp(t *testing.T, r string) {
	t.Helper()
	if got, e := Clamp(r); got != wantClamp(r) || e != api.OK {
		t.Errorf("P7.1: Clamp(%x) is %x, error %d, want %x", r, got, e, wantClamp(r))
	}
}

// P7.1: RFC 8439, 2.5.2, the ends, and each byte of which bits are cleared.
func TestClampExamples(t *testing.T) {
	for _, c := range []struct{ r, want string }{
		{"85d6be7857556d337f4452fe42d506a8", "85d6be0854556d037c44520e40d50608"},
		{"00000000000000000000000000000000", "00000000000000000000000000000000"},
		{"ffffffffffffffffffffffffffffffff", "ffffff0ffcffff0ffcffff0ffcffff0f"},
		{"000000ff000000000000000000000000", "0000000f000000000000000000000000"},
		{"00000000ff0000000000000000000000", "00000000fc0000000000000000000000"},
		{"00000000000000ff0000000000000000", "000000000000000f0000000000000000"},
		{"0000000000000000ff00000000000000", "0000000000000000fc00000000000000"},
		{"0000000000000000000000ff00000000", "00000000000000000000000f00000000"},
		{"000000000000000000000000ff000000", "000000000000000000000000fc000000"},
		{"000000000000000000000000000000ff", "0000000000000000000000000000000f"},
	} {
		if got, e := Clamp(bytesOf(t, c.r)); hex.EncodeToString([]byte(got)) != c.want || e != api.OK {
			t.Errorf("P7.1: Clamp(%s) is %x, error %d, want %s", c.r, got, e, c.want)
		}
	}
}

// P7.1: each value of each byte, among bytes 0 and among full ones, and other texts; what is clamped stays as it is.
func TestClampOfEachByte(t *testing.T) {
	for _, plain := range []string{zeroHalf, fullHalf, someText(16, 1)} {
		for at := range 16 {
			for value := range 256 {
				holdClamp(t, plain[:at]+string([]byte{byte(value)})+plain[at+1:])
			}
		}
	}
	for seed := range 200 {
		r := someText(16, seed)
		holdClamp(t, r)
		holdClamp(t, wantClamp(r))
	}
}

// P7.1: ErrShape of each text that hasn't 16 bytes, and nothing beside it.
func TestClampShape(t *testing.T) {
	lengths := []int{64, 255, 256, api.MaxText, api.MaxText + 1, 1 << 20}
	for n := range 40 {
		lengths = append(lengths, n)
	}
	for _, n := range lengths {
		for _, s := range []string{someText(n, 2), strings.Repeat("\x00", n), strings.Repeat("\xff", n)} {
			want := api.ErrShape
			if n == 16 {
				want = api.OK
			}
			if got, e := Clamp(s); e != want || e != api.OK && got != "" || e == api.OK && len(got) != 16 {
				t.Errorf("P7.1: Clamp of %d bytes: %d bytes, error %d, want %d", n, len(got), e, want)
			}
		}
	}
}

// P7.2: RFC 8439, 2.5.2 and appendix A.3.
func TestSumExamples(t *testing.T) {
	const (
		ietf   = "Any submission to the IETF intended by the Contributor for publication as all or part of an IETF Internet-Draft or RFC and any statement made within the context of an IETF activity is considered an \"IETF Contribution\". Such statements include oral statements in IETF sessions, as well as written and electronic communications made at any time or place, which are addressed to"
		jabber = "'Twas brillig, and the slithy toves\nDid gyre and gimble in the wabe:\nAll mimsy were the borogoves,\nAnd the mome raths outgrabe."
	)
	half := bytesOf(t, "36e5f6b5c5e06070f0efca96227a863e")
	apart := bytesOf(t, "01000000000000000400000000000000") + zeroHalf
	near := bytesOf(t, "e33594d7505e43b900000000000000003394d7505e4379cd0100000000000000") + zeroHalf
	for _, c := range []struct{ name, key, text, want string }{
		{"2.5.2", bytesOf(t, "85d6be7857556d337f4452fe42d506a80103808afb0db2fd4abff6af4149f51b"), "Cryptographic Forum Research Group", "a8061dc1305136c6c22b8baf0c0127a9"},
		{"A.3 1", zeroHalf + zeroHalf, strings.Repeat(zeroHalf, 4), "00000000000000000000000000000000"},
		{"A.3 2", zeroHalf + half, ietf, "36e5f6b5c5e06070f0efca96227a863e"},
		{"A.3 3", half + zeroHalf, ietf, "f3477e7cd95417af89a6b8794c310cf0"},
		{"A.3 4", bytesOf(t, "1c9240a5eb55d38af333888604f6b5f0473917c1402b80099dca5cbc207075c0"), jabber, "4541669a7eaaee61e708dc7cbcc5eb62"},
		{"A.3 5", twoHalf + zeroHalf, fullHalf, "03000000000000000000000000000000"},
		{"A.3 6", twoHalf + fullHalf, twoHalf, "03000000000000000000000000000000"},
		{"A.3 7", oneHalf + zeroHalf, fullHalf + "\xf0" + fullHalf[1:] + "\x11" + zeroHalf[1:], "05000000000000000000000000000000"},
		{"A.3 8", oneHalf + zeroHalf, fullHalf + "\xfb" + strings.Repeat("\xfe", 15) + strings.Repeat("\x01", 16), "00000000000000000000000000000000"},
		{"A.3 9", twoHalf + zeroHalf, "\xfd" + fullHalf[1:], "faffffffffffffffffffffffffffffff"},
		{"A.3 10", apart, near + oneHalf, "14000000000000005500000000000000"},
		{"A.3 11", apart, near, "13000000000000000000000000000000"},
	} {
		if got := hex.EncodeToString([]byte(mustSum(t, c.key, c.text))); got != c.want {
			t.Errorf("P7.2: RFC 8439, %s: %s, want %s", c.name, got, c.want)
		}
	}
}

// P7.2: a text without bytes has the key's second half as its tag, whatever the first half is.
func TestSumOfNothing(t *testing.T) {
	halves := []string{zeroHalf, oneHalf, fullHalf}
	for seed := range 50 {
		halves = append(halves, someText(16, seed))
	}
	for _, first := range halves {
		for _, second := range halves {
			if got := mustSum(t, first+second, ""); got != second {
				t.Fatalf("P7.2: the key %x%x: the tag of no bytes is %x", first, second, got)
			}
		}
	}
}

// P7.2: ErrShape of each key that hasn't 32 bytes, also where the text is too long; ErrLong of a text of more than MaxText bytes; and nothing beside either.
func TestSumErrors(t *testing.T) {
	texts := []string{}
	for _, n := range []int{0, 1, 16, api.MaxText - 1, api.MaxText, api.MaxText + 1, api.MaxText + 15, api.MaxText + 16, api.MaxText + 17, 2 * api.MaxText, 1 << 20} {
		texts = append(texts, someText(n, 3))
	}
	for _, k := range []int{0, 1, 15, 16, 17, 31, 32, 33, 48, 64, 1000, api.MaxText + 1} {
		key := someText(k, 4)
		for _, s := range texts {
			want := api.OK
			if len(s) > api.MaxText {
				want = api.ErrLong
			}
			if k != 32 {
				want = api.ErrShape
			}
			if got, e := Sum(key, s); e != want || e != api.OK && got != "" || e == api.OK && len(got) != 16 {
				t.Errorf("P7.2: a key of %d bytes, a text of %d: %d bytes, error %d, want %d", k, len(s), len(got), e, want)
			}
		}
	}
}

// P7.2: texts of each length up to some chunks, and at the ends of chunks of longer ones.
func TestSumOfEachLength(t *testing.T) {
	lengths := []int{}
	for n := range 200 {
		lengths = append(lengths, n)
	}
	for _, end := range []int{256, 1024, 4096, api.MaxText - 16, api.MaxText} {
		lengths = append(lengths, end-2, end-1, end)
		if end < api.MaxText {
			lengths = append(lengths, end+1, end+2)
		}
	}
	for _, n := range lengths {
		for _, key := range []string{someText(32, n), fullHalf + fullHalf, oneHalf + zeroHalf, zeroHalf + oneHalf} {
			for _, s := range []string{someText(n, n+1), strings.Repeat("\x00", n), strings.Repeat("\xff", n)} {
				holdSum(t, key, s)
			}
		}
	}
}

// P7.2: the longest texts, by another program's answers: OpenSSL's tags.
func TestSumOfLongest(t *testing.T) {
	count := make([]byte, api.MaxText)
	for i := range count {
		count[i] = byte(i % 251)
	}
	counted := string(count)
	key := ""
	for i := range 32 {
		key += string([]byte{byte(i)})
	}
	for _, c := range []struct{ key, text, want string }{
		{fullHalf + fullHalf, strings.Repeat("\xff", api.MaxText), "f2ad07edc89ff60973326908105868fa"},
		{fullHalf + fullHalf, strings.Repeat("\xff", api.MaxText-1), "f2ad2fbbd29f1ed87c3291d6195890d0"},
		{fullHalf + fullHalf, strings.Repeat("\x00", api.MaxText), "f510317027854d880aaa575c0df456fb"},
		{key, counted, "0f1019d521b540687e792d794fa0f909"},
		{key, counted[:api.MaxText-15], "81775f11ab226a65a766b7b89d96711d"},
	} {
		if got := hex.EncodeToString([]byte(mustSum(t, c.key, c.text))); got != c.want {
			t.Errorf("P7.2: %d bytes that begin with %x: %s, want %s", len(c.text), c.text[:16], got, c.want)
		}
	}
}

// P7.2: full bytes, and a last chunk that brings the accumulator to 2^130 - 5 and to the numbers beside it; by the factor 1 it is there already ahead of the multiplication.
func TestSumBesideTheModulus(t *testing.T) {
	for last := range 256 {
		for _, first := range []string{oneHalf, twoHalf, fullHalf} {
			for _, second := range []string{zeroHalf, oneHalf, fullHalf} {
				for _, chunks := range []int{0, 1, 2, 3, 4, 9} {
					holdSum(t, first+second, strings.Repeat(fullHalf, chunks)+string([]byte{byte(last)})+fullHalf[1:])
				}
			}
		}
	}
	for _, c := range []struct{ last, want string }{ // 2^130 - 5 plus -2, -1, 0, 1, 2, modulo itself
		{"\xfa", "\xf9" + fullHalf[1:]},
		{"\xfb", "\xfa" + fullHalf[1:]},
		{"\xfc", zeroHalf},
		{"\xfd", oneHalf},
		{"\xfe", twoHalf},
	} {
		if got := mustSum(t, oneHalf+zeroHalf, fullHalf+c.last+fullHalf[1:]); got != c.want {
			t.Errorf("P7.2: the last chunk begins with %x: %x, want %x", c.last, got, c.want)
		}
	}
}

// leading is a text of two chunks, by which an accumulator comes to a wanted number: the last chunk is solved for, and the first one changed till the last one's number is a chunk's.
func leading(t *testing.T, r, to *big.Int) string {
	back := new(big.Int).ModInverse(r, prime())
	for seed := range 1000 {
		first := someText(16, seed)
		x := new(big.Int).Mul(to, back)
		x.Sub(x, new(big.Int).Mul(valueOf(first+"\x01"), r))
		x.Mod(x, prime())
		if x.BitLen() == 129 { // a full chunk's byte 1 is bit 128, and nothing is above it
			return first + textOf(x)
		}
	}
	t.Fatalf("no text leads to %x by %x", to, r)
	return ""
}

// P7.2: the accumulator comes to the ends of what there is: 0, the modulus less one, the powers of two of the parts, of the words and of the tag, and their neighbours; the last sum passes 2^128, or just doesn't.
func TestSumOfWantedAccumulators(t *testing.T) {
	var wanted []*big.Int
	for near := int64(-6); near <= 6; near++ {
		for _, n := range []uint{26, 32, 52, 64, 78, 96, 104, 128, 129, 130} {
			wanted = append(wanted, new(big.Int).Mod(power(n, near), prime()))
		}
		wanted = append(wanted, new(big.Int).Mod(big.NewInt(near), prime()))
		wanted = append(wanted, new(big.Int).Mod(new(big.Int).Add(power(129, near), power(128, 0)), prime()))
	}
	for seed := range 8 {
		first := someText(16, seed)
		r := valueOf(wantClamp(first))
		for _, to := range wanted {
			s := leading(t, r, to)
			low := new(big.Int).Mod(to, power(128, 0))
			for near := int64(-1); near <= 1; near++ {
				second := textOf(new(big.Int).Sub(power(128, near), low))
				want := textOf(new(big.Int).Add(low, valueOf(second)))
				if got := mustSum(t, first+second, s); got != want || got != wantSum(first+second, s) {
					t.Fatalf("P7.2: the accumulator %x, the second half %x: %x, want %x", to, second, got, want)
				}
			}
			holdSum(t, first+zeroHalf, s)
			holdSum(t, first+fullHalf, s)
		}
	}
}

// P7.2: the greatest products, chunk after chunk: the accumulator is near the modulus when a full chunk comes.
func TestSumOfGreatestProducts(t *testing.T) {
	r := valueOf(wantClamp(fullHalf))
	for near := int64(0); near < 70; near++ {
		s := leading(t, r, power(130, 6+near))
		for _, behind := range []string{fullHalf, fullHalf + fullHalf, zeroHalf, fullHalf[:15], "\xff", ""} {
			holdSum(t, fullHalf+fullHalf, s+behind)
		}
	}
}

// P7.2: each bit of a chunk stands in its place, also of one that is shorter than 16 bytes, and each bit of the key but those that Clamp clears counts.
func TestSumHangsOnEachBit(t *testing.T) {
	plain := someText(16, 5)
	for _, length := range []int{1, 4, 15, 16, 17, 31, 32, 33} {
		for bit := range length * 8 {
			b := make([]byte, length)
			b[bit/8] = 1 << (bit % 8)
			holdSum(t, oneHalf+zeroHalf, string(b))
			holdSum(t, plain+plain, string(b))
		}
	}
	key, text := someText(32, 6), someText(40, 7)
	was := mustSum(t, key, text)
	for bit := range 256 {
		b := []byte(key)
		b[bit/8] ^= 1 << (bit % 8)
		other := string(b)
		holdSum(t, other, text)
		counts := bit >= 128 || wantClamp(other[:16]) != wantClamp(key[:16])
		if (mustSum(t, other, text) != was) != counts {
			t.Errorf("P7.2: bit %d of the key counts: %t", bit, !counts)
		}
	}
}

// P7.2: zeros at a text's end count, since a byte 1 stands behind each chunk.
func TestSumTellsZerosAtTheEnd(t *testing.T) {
	key := someText(32, 8)
	seen := map[string]int{}
	for n := range 100 {
		tag := mustSum(t, key, strings.Repeat("\x00", n))
		if other, is := seen[tag]; is {
			t.Errorf("P7.2: %d zeros and %d have one tag", n, other)
		}
		seen[tag] = n
	}
}

// P7.2: many keys and texts.
func TestSums(t *testing.T) {
	for seed := range 2000 {
		holdSum(t, someText(32, seed), someText(seed%131, seed+5000))
	}
}

// P7.3: the same bytes are equal, whatever they are.
func TestEqualOfTheSame(t *testing.T) {
	for n := range 300 {
		s := someText(n, n)
		if !Equal(s, strings.Clone(s)) || !Equal(s, s) {
			t.Errorf("P7.3: %d bytes aren't equal to themselves", n)
		}
	}
	for _, n := range []int{api.MaxText, api.MaxText + 1, 1 << 20} {
		if s := someText(n, n); !Equal(s, strings.Clone(s)) {
			t.Errorf("P7.3: %d bytes aren't equal to themselves", n)
		}
	}
}

// P7.3: texts that differ in one bit alone aren't equal, wherever it is; nor those that differ in more, also where the differences would make up for one another.
func TestEqualOfUnlikeBytes(t *testing.T) {
	for _, n := range []int{1, 2, 3, 4, 15, 16, 17, 64} {
		s := someText(n, n)
		for bit := range n * 8 {
			b := []byte(s)
			b[bit/8] ^= 1 << (bit % 8)
			if Equal(s, string(b)) || Equal(string(b), s) {
				t.Errorf("P7.3: %d bytes are equal with bit %d turned", n, bit)
			}
			for at := range n {
				if b[at] ^= 1 << (bit % 8); string(b) != s && Equal(s, string(b)) {
					t.Errorf("P7.3: %d bytes are equal with bit %d and one of byte %d turned", n, bit, at)
				}
				b[at] ^= 1 << (bit % 8)
			}
		}
	}
	for _, c := range []struct{ a, b string }{
		{"ab", "ba"},
		{"ab", "ac"},
		{"\x00", "\x80"},
		{"\xc3\xa9", "\xc3\xa8"}, // the second byte of one rune
		{"\xff\xff", "\xff\xfe"}, // bytes that are no runes
		{"\xff\x00\xff", "\x00\xff\xff"},
	} {
		if Equal(c.a, c.b) || Equal(c.b, c.a) {
			t.Errorf("P7.3: %q and %q are equal", c.a, c.b)
		}
	}
	long := someText(api.MaxText+5, 9)
	if Equal(long, long[:len(long)-1]+string([]byte{^long[len(long)-1]})) {
		t.Error("P7.3: long texts that differ in the last byte are equal")
	}
}

// P7.3: texts of unlike lengths aren't equal, though the one begins with the other.
func TestEqualOfUnlikeLengths(t *testing.T) {
	for _, s := range []string{someText(40, 10), strings.Repeat("\x00", 40), strings.Repeat("\xff", 40)} {
		for a := range len(s) + 1 {
			for b := range len(s) + 1 {
				if Equal(s[:a], s[:b]) != (a == b) {
					t.Errorf("P7.3: the first %d bytes and the first %d: %t", a, b, a != b)
				}
			}
		}
	}
	if !Equal("", "") || Equal("", "\x00") || Equal("\x00", "") {
		t.Error("P7.3: empty texts")
	}
}

// P1 and P2: calls between calls, refused ones among them, change no answer.
func TestNothingIsKept(t *testing.T) {
	key, text := someText(32, 11), someText(150, 12)
	want := wantSum(key, text)
	for i := range 70 {
		if mustSum(t, key, text) != want {
			t.Fatal("P2: a tag hangs on the calls ahead of it")
		}
		Sum(someText(i, i), someText(i, i))
		Sum(someText(32, i), strings.Repeat("\xff", api.MaxText+i))
		if Clamp(someText(i, i)); !Equal(mustSum(t, key, text), want) {
			t.Fatal("P2: a tag hangs on the calls ahead of it")
		}
	}
}

// valueOfParts is what an array of parts stands for.
func valueOfParts(n [5]uint64) *big.Int {
	x := new(big.Int)
	for i := range n {
		x.Add(x, new(big.Int).Lsh(new(big.Int).SetUint64(n[i]), uint(26*i)))
	}
	return x
}

// Ways, layer 7: a number is an array of five parts of 26 bits, that stand for the number of the text.
func TestNumberIsAnArrayOfParts(t *testing.T) {
	for seed := range 100 {
		for length := range 18 {
			s := someText(length, seed)
			if length == 17 {
				s = s[:16] + "\x01"
			}
			var n [5]uint64 = numberOf(s)
			if valueOfParts(n).Cmp(valueOf(s)) != 0 || slices.Max(n[:]) >= 1<<26 {
				t.Fatalf("Ways: the number of %x is %x", s, n)
			}
			if length == 16 && lowest(n) != s {
				t.Fatalf("Ways: the text of %x is %x, want %x", n, lowest(n), s)
			}
		}
	}
}

// Ways, layer 7: reckoning with such an array is reckoning with what it stands for, and leaves the arrays that it is made of as they were.
func TestReckoningWithParts(t *testing.T) {
	most := number{1<<27 - 2, 1<<27 - 2, 1<<27 - 2, 1<<27 - 2, 1<<27 - 2} // the greatest sum of two carried numbers
	least := number{}
	modulus := number{1<<26 - 5, 1<<26 - 1, 1<<26 - 1, 1<<26 - 1, 1<<26 - 1}
	full := number{1<<26 - 1, 1<<26 - 1, 1<<26 - 1, 1<<26 - 1, 1<<26 - 1}
	factors := []number{least, {1}, {2}, {0, 1}, {0, 0, 0, 0, 1}, modulus, full}
	for seed := range 30 {
		factors = append(factors, numberOf(someText(16, seed)))
	}
	numbers := append([]number{most, plus(modulus, number{1})}, factors...)
	for _, a := range numbers {
		for _, b := range factors {
			x, y := valueOfParts(a), valueOfParts(b)
			if got, want := valueOfParts(plus(a, b)), new(big.Int).Add(x, y); got.Cmp(want) != 0 {
				t.Fatalf("Ways: %x plus %x is %x, want %x", a, b, got, want)
			}
			want := new(big.Int).Mul(x, y)
			want.Mod(want, prime())
			got := settled(times(a, b))
			if valueOfParts(got).Cmp(want) != 0 || slices.Max(got[:]) >= 1<<26 {
				t.Fatalf("Ways: %x times %x is %x, want %x", a, b, got, want)
			}
			if valueOfParts(a).Cmp(x) != 0 || valueOfParts(b).Cmp(y) != 0 {
				t.Fatal("Ways: reckoning changed a number that it was handed")
			}
		}
	}
}
