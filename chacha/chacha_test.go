package chacha

import (
	"crypto/sha256"
	"encoding/binary"
	"encoding/hex"
	"go/ast"
	"go/parser"
	"go/token"
	"math"
	"strconv"
	"strings"
	"testing"

	"cofferdam/api"
)

const (
	zeroKey   = "\x00\x00\x00\x00\x00\x00\x00\x00\x00\x00\x00\x00\x00\x00\x00\x00\x00\x00\x00\x00\x00\x00\x00\x00\x00\x00\x00\x00\x00\x00\x00\x00"
	countKey  = "\x00\x01\x02\x03\x04\x05\x06\x07\x08\x09\x0a\x0b\x0c\x0d\x0e\x0f\x10\x11\x12\x13\x14\x15\x16\x17\x18\x19\x1a\x1b\x1c\x1d\x1e\x1f"
	lastKey   = "\x00\x00\x00\x00\x00\x00\x00\x00\x00\x00\x00\x00\x00\x00\x00\x00\x00\x00\x00\x00\x00\x00\x00\x00\x00\x00\x00\x00\x00\x00\x00\x01"
	zeroNonce = "\x00\x00\x00\x00\x00\x00\x00\x00\x00\x00\x00\x00"
	lastNonce = "\x00\x00\x00\x00\x00\x00\x00\x00\x00\x00\x00\x02"
)

// turned moves one bit at a time, so that it shares nothing with the code under test.
func turned(x uint64, n int) uint64 {
	for range n {
		x = x<<1&math.MaxUint32 | x>>31
	}
	return x
}

// wantQuarter is the standard's quarter round as it is written there, in numbers wide enough for the sums, that are cut to 32 bits.
func wantQuarter(w *[16]uint64, a, b, c, d int) {
	w[a] = (w[a] + w[b]) % (1 << 32)
	w[d] = turned(w[d]^w[a], 16)
	w[c] = (w[c] + w[d]) % (1 << 32)
	w[b] = turned(w[b]^w[c], 12)
	w[a] = (w[a] + w[b]) % (1 << 32)
	w[d] = turned(w[d]^w[a], 8)
	w[c] = (w[c] + w[d]) % (1 << 32)
	w[b] = turned(w[b]^w[c], 7)
}

// wantBlock is the standard's block function, as it is written there.
func wantBlock(key, nonce string, counter uint32) string {
	first := [16]uint64{0x61707865, 0x3320646e, 0x79622d32, 0x6b206574, 12: uint64(counter)}
	for i := range 8 {
		first[4+i] = uint64(binary.LittleEndian.Uint32([]byte(key[4*i:])))
	}
	for i := range 3 {
		first[13+i] = uint64(binary.LittleEndian.Uint32([]byte(nonce[4*i:])))
	}
	w := first
	for n := 1; n <= 10; n++ {
		wantQuarter(&w, 0, 4, 8, 12)
		wantQuarter(&w, 1, 5, 9, 13)
		wantQuarter(&w, 2, 6, 10, 14)
		wantQuarter(&w, 3, 7, 11, 15)
		wantQuarter(&w, 0, 5, 10, 15)
		wantQuarter(&w, 1, 6, 11, 12)
		wantQuarter(&w, 2, 7, 8, 13)
		wantQuarter(&w, 3, 4, 9, 14)
	}
	var text []byte
	for i := range w {
		text = binary.LittleEndian.AppendUint32(text, uint32(w[i]+first[i]))
	}
	return string(text)
}

// wantCrypt tells each byte by the block that it falls into.
func wantCrypt(key, nonce string, counter uint32, s string) string {
	text := make([]byte, len(s))
	stream := ""
	for i := range text {
		if i%64 == 0 {
			stream = wantBlock(key, nonce, uint32((uint64(counter)+uint64(i/64))%(1<<32)))
		}
		text[i] = s[i] ^ stream[i%64]
	}
	return string(text)
}

// someText looks like chance, and is the same in each run.
func someText(length, seed int) string {
	b := make([]byte, length)
	x := uint32(seed)*2246822519 + 777
	for i := range b {
		x = x*1664525 + 1013904223
		b[i] = byte(x >> 24)
	}
	return string(b)
}

func bytesOf(t *testing.T, sixteens string) string {
	t.Helper()
	b, err := hex.DecodeString(sixteens)
	if err != nil {
		t.Fatal(err)
	}
	return string(b)
}

// mustCrypt is what Crypt answers where no error is due.
func mustCrypt(t *testing.T, key, nonce string, counter uint32, s string) string {
	t.Helper()
	got, e := Crypt(key, nonce, counter, s)
	if e != api.OK || len(got) != len(s) {
		t.Fatalf("P6.3: %d bytes from counter %d on: %d bytes, error %d", len(s), counter, len(got), e)
	}
	return got
}

// mustBlock likewise, of Block.
func mustBlock(t *testing.T, key, nonce string, counter uint32) string {
	t.Helper()
	got, e := Block(key, nonce, counter)
	if e != api.OK || len(got) != 64 {
		t.Fatalf("P6.2: the block of counter %d: %d bytes, error %d", counter, len(got), e)
	}
	return got
}

func someCounters() []uint32 {
	return []uint32{0, 1, 2, 255, 256, 65535, 65536, 0x01020304, math.MaxInt32, 1 << 31, math.MaxUint32 - 2, math.MaxUint32 - 1, math.MaxUint32}
}

// edges is lengths at, below and above the ends of blocks, up to the longest that there may be.
func edges() []int {
	l := []int{0, 1, 2, 3, 4, 5, 31, 32, 33, 62}
	for _, end := range []int{64, 128, 192, 256, 1024, 4096, api.MaxText - 64, api.MaxText} {
		for _, near := range []int{-1, 0, 1} {
			if end+near <= api.MaxText {
				l = append(l, end+near)
			}
		}
	}
	return l
}

// P6.1: RFC 8439, 2.1.1 and 2.2.1, and words that are reckoned by hand.
func TestQuarterExamples(t *testing.T) {
	for _, c := range []struct{ in, want [4]uint32 }{
		{[4]uint32{0x11111111, 0x01020304, 0x9b8d6f43, 0x01234567}, [4]uint32{0xea2a92f4, 0xcb1cf8ce, 0x4581472e, 0x5881c4bb}},
		{[4]uint32{0x516461b1, 0x2a5f714c, 0x53372767, 0x3d631689}, [4]uint32{0xbdb886dc, 0xcfacafd2, 0xe46bea80, 0xccc07c79}},
		{[4]uint32{0, 0, 0, 0}, [4]uint32{0, 0, 0, 0}},
		{[4]uint32{1, 0, 0, 0}, [4]uint32{0x10000001, 0x80808808, 0x01010110, 0x01000110}},
	} {
		a, b, x, d := Quarter(c.in[0], c.in[1], c.in[2], c.in[3])
		if got := [4]uint32{a, b, x, d}; got != c.want {
			t.Errorf("P6.1: Quarter(%08x) is %08x, want %08x", c.in, got, c.want)
		}
	}
}

// P6.1: each mix of the least, the greatest and other words, in each place; sums run over, and none may keep what ran over.
func TestQuarterOfEachMix(t *testing.T) {
	some := []uint32{0, 1, 0x7fffffff, 0x80000000, 0xfffffffe, math.MaxUint32, 0x12345678, 0xdeadbeef, 0x0000ffff, 0xaaaaaaaa}
	n := len(some)
	for i := range n * n * n * n {
		in := [4]uint32{some[i%n], some[i/n%n], some[i/n/n%n], some[i/n/n/n]}
		w := [16]uint64{uint64(in[0]), uint64(in[1]), uint64(in[2]), uint64(in[3])}
		wantQuarter(&w, 0, 1, 2, 3)
		a, b, c, d := Quarter(in[0], in[1], in[2], in[3])
		if [4]uint64{uint64(a), uint64(b), uint64(c), uint64(d)} != [4]uint64(w[:4]) {
			t.Fatalf("P6.1: Quarter(%08x) is %08x %08x %08x %08x, want %08x", in, a, b, c, d, w[:4])
		}
	}
}

// P6.1: single bits, in each place.
func TestQuarterOfEachBit(t *testing.T) {
	for bit := range 128 {
		var in [4]uint32
		in[bit/32] = 1 << (bit % 32)
		w := [16]uint64{uint64(in[0]), uint64(in[1]), uint64(in[2]), uint64(in[3])}
		wantQuarter(&w, 0, 1, 2, 3)
		a, b, c, d := Quarter(in[0], in[1], in[2], in[3])
		if [4]uint64{uint64(a), uint64(b), uint64(c), uint64(d)} != [4]uint64(w[:4]) {
			t.Errorf("P6.1: Quarter(%08x) is %08x %08x %08x %08x, want %08x", in, a, b, c, d, w[:4])
		}
	}
}

// P6.2: RFC 8439, 2.3.2 and appendix A.1.
func TestBlockExamples(t *testing.T) {
	for _, c := range []struct {
		name, key, nonce string
		counter          uint32
		want             string
	}{
		{"2.3.2", countKey, "\x00\x00\x00\x09\x00\x00\x00\x4a\x00\x00\x00\x00", 1, "10f1e7e4d13b5915500fdd1fa32071c4c7d1f4c733c068030422aa9ac3d46c4ed2826446079faa0914c2d705d98b02a2b5129cd1de164eb9cbd083e8a2503c4e"},
		{"A.1 1", zeroKey, zeroNonce, 0, "76b8e0ada0f13d90405d6ae55386bd28bdd219b8a08ded1aa836efcc8b770dc7da41597c5157488d7724e03fb8d84a376a43b8f41518a11cc387b669b2ee6586"},
		{"A.1 2", zeroKey, zeroNonce, 1, "9f07e7be5551387a98ba977c732d080dcb0f29a048e3656912c6533e32ee7aed29b721769ce64e43d57133b074d839d531ed1f28510afb45ace10a1f4b794d6f"},
		{"A.1 3", lastKey, zeroNonce, 1, "3aeb5224ecf849929b9d828db1ced4dd832025e8018b8160b82284f3c949aa5a8eca00bbb4a73bdad192b5c42f73f2fd4e273644c8b36125a64addeb006c13a0"},
		{"A.1 4", "\x00\xff" + zeroKey[2:], zeroNonce, 2, "72d54dfbf12ec44b362692df94137f328fea8da73990265ec1bbbea1ae9af0ca13b25aa26cb4a648cb9b9d1be65b2c0924a66c54d545ec1b7374f4872e99f096"},
		{"A.1 5", zeroKey, lastNonce, 0, "c2c64d378cd536374ae204b9ef933fcd1a8b2288b3dfa49672ab765b54ee27c78a970e0e955c14f3a88e741b97c286f75f8fc299e8148362fa198a39531bed6d"},
	} {
		if got := hex.EncodeToString([]byte(mustBlock(t, c.key, c.nonce, c.counter))); got != c.want {
			t.Errorf("P6.2: RFC 8439, %s: %s, want %s", c.name, got, c.want)
		}
		if got := hex.EncodeToString([]byte(mustCrypt(t, c.key, c.nonce, c.counter, strings.Repeat("\x00", 64)))); got != c.want {
			t.Errorf("P6.3: RFC 8439, %s, combined with zeros: %s, want %s", c.name, got, c.want)
		}
	}
}

// P6.3: RFC 8439, 2.4.2 and appendix A.2; each combined once more is as it was.
func TestCryptExamples(t *testing.T) {
	for _, c := range []struct {
		name, key, nonce string
		counter          uint32
		text, want       string
	}{
		{"2.4.2", countKey, "\x00\x00\x00\x00\x00\x00\x00\x4a\x00\x00\x00\x00", 1,
			"Ladies and Gentlemen of the class of '99: If I could offer you only one tip for the future, sunscreen would be it.",
			"6e2e359a2568f98041ba0728dd0d6981e97e7aec1d4360c20a27afccfd9fae0bf91b65c5524733ab8f593dabcd62b3571639d624e65152ab8f530c359f0861d807ca0dbf500d6a6156a38e088a22b65e52bc514d16ccf806818ce91ab77937365af90bbf74a35be6b40b8eedf2785e42874d"},
		{"A.2 1", zeroKey, zeroNonce, 0, strings.Repeat("\x00", 64),
			"76b8e0ada0f13d90405d6ae55386bd28bdd219b8a08ded1aa836efcc8b770dc7da41597c5157488d7724e03fb8d84a376a43b8f41518a11cc387b669b2ee6586"},
		{"A.2 2", lastKey, lastNonce, 1,
			"Any submission to the IETF intended by the Contributor for publication as all or part of an IETF Internet-Draft or RFC and any statement made within the context of an IETF activity is considered an \"IETF Contribution\". Such statements include oral statements in IETF sessions, as well as written and electronic communications made at any time or place, which are addressed to",
			"a3fbf07df3fa2fde4f376ca23e82737041605d9f4f4f57bd8cff2c1d4b7955ec2a97948bd3722915c8f3d337f7d370050e9e96d647b7c39f56e031ca5eb6250d4042e02785ececfa4b4bb5e8ead0440e20b6e8db09d881a7c6132f420e52795042bdfa7773d8a9051447b3291ce1411c680465552aa6c405b7764d5e87bea85ad00f8449ed8f72d0d662ab052691ca66424bc86d2df80ea41f43abf937d3259dc4b2d0dfb48a6c9139ddd7f76966e928e635553ba76c5c879d7b35d49eb2e62b0871cdac638939e25e8a1e0ef9d5280fa8ca328b351c3c765989cbcf3daa8b6ccc3aaf9f3979c92b3720fc88dc95ed84a1be059c6499b9fda236e7e818b04b0bc39c1e876b193bfe5569753f88128cc08aaa9b63d1a16f80ef2554d7189c411f5869ca52c5b83fa36ff216b9c1d30062bebcfd2dc5bce0911934fda79a86f6e698ced759c3ff9b6477338f3da4f9cd8514ea9982ccafb341b2384dd902f3d1ab7ac61dd29c6f21ba5b862f3730e37cfdc4fd806c22f221"},
		{"A.2 3", bytesOf(t, "1c9240a5eb55d38af333888604f6b5f0473917c1402b80099dca5cbc207075c0"), lastNonce, 42,
			"'Twas brillig, and the slithy toves\nDid gyre and gimble in the wabe:\nAll mimsy were the borogoves,\nAnd the mome raths outgrabe.",
			"62e6347f95ed87a45ffae7426f27a1df5fb69110044c0d73118effa95b01e5cf166d3df2d721caf9b21e5fb14c616871fd84c54f9d65b283196c7fe4f60553ebf39c6402c42234e32a356b3e764312a61a5532055716ead6962568f87d3f3f7704c6a8d1bcd1bf4d50d6154b6da731b187b58dfd728afa36757a797ac188d1"},
	} {
		got := mustCrypt(t, c.key, c.nonce, c.counter, c.text)
		if hex.EncodeToString([]byte(got)) != c.want {
			t.Errorf("P6.3: RFC 8439, %s: %x, want %s", c.name, got, c.want)
		}
		if mustCrypt(t, c.key, c.nonce, c.counter, got) != c.text {
			t.Errorf("P6.3: RFC 8439, %s, combined once more isn't the text", c.name)
		}
	}
}

// P6.2 and P6.3: ErrShape of each key and nonce that hasn't its bytes, also where the text is too long; and nothing beside it.
func TestShape(t *testing.T) {
	for _, k := range []int{0, 1, 16, 31, 32, 33, 64, 1000} {
		for _, n := range []int{0, 1, 8, 11, 12, 13, 24, 1000} {
			key, nonce, want := someText(k, 1), someText(n, 2), api.ErrShape
			if k == 32 && n == 12 {
				want = api.OK
			}
			for _, counter := range []uint32{0, 1, math.MaxUint32} {
				if s, e := Block(key, nonce, counter); e != want || e != api.OK && s != "" {
					t.Errorf("P6.2: a key of %d bytes, a nonce of %d: %d bytes, error %d, want %d", k, n, len(s), e, want)
				}
				for _, length := range []int{0, 1, 64, api.MaxText} {
					if s, e := Crypt(key, nonce, counter, someText(length, 3)); e != want || e != api.OK && s != "" {
						t.Errorf("P6.3: a key of %d bytes, a nonce of %d, %d bytes: %d bytes, error %d, want %d", k, n, length, len(s), e, want)
					}
				}
			}
			if want == api.OK {
				want = api.ErrLong
			}
			if s, e := Crypt(key, nonce, 0, someText(api.MaxText+1, 3)); e != want || s != "" {
				t.Errorf("P6.3: a key of %d bytes, a nonce of %d, a text too long: %d bytes, error %d, want %d", k, n, len(s), e, want)
			}
		}
	}
}

// P6.3: a text of MaxText bytes may be, one byte more is too long; and nothing beside it.
func TestLong(t *testing.T) {
	for _, counter := range []uint32{0, 1, math.MaxUint32} {
		mustCrypt(t, countKey, zeroNonce, counter, someText(api.MaxText, 4))
		for _, length := range []int{api.MaxText + 1, api.MaxText + 63, api.MaxText + 64, 2 * api.MaxText, 1 << 20} {
			if s, e := Crypt(countKey, zeroNonce, counter, someText(length, 4)); e != api.ErrLong || s != "" {
				t.Errorf("P6.3: %d bytes: %d bytes, error %d, want %d", length, len(s), e, api.ErrLong)
			}
		}
	}
}

// P6.2: blocks of many keys, nonces and counters.
func TestBlocks(t *testing.T) {
	for seed := range 40 {
		key, nonce := someText(32, seed), someText(12, seed+100)
		for _, counter := range someCounters() {
			if got := mustBlock(t, key, nonce, counter); got != wantBlock(key, nonce, counter) {
				t.Fatalf("P6.2: the key %x, the nonce %x, counter %d: %x", key, nonce, counter, got)
			}
		}
	}
	full := strings.Repeat("\xff", 32)
	for _, counter := range someCounters() {
		if mustBlock(t, full, full[:12], counter) != wantBlock(full, full[:12], counter) {
			t.Errorf("P6.2: a key and a nonce of greatest bytes, counter %d", counter)
		}
	}
}

// P6.2: each bit of the key, the nonce and the counter counts, and each leads to a block of its own.
func TestBlockHangsOnEachBit(t *testing.T) {
	plain := someText(32+12+4, 5)
	seen := map[string]int{}
	for bit := -1; bit < len(plain)*8; bit++ {
		b := []byte(plain)
		if bit >= 0 {
			b[bit/8] ^= 1 << (bit % 8)
		}
		key, nonce, counter := string(b[:32]), string(b[32:44]), binary.LittleEndian.Uint32(b[44:])
		got := mustBlock(t, key, nonce, counter)
		if got != wantBlock(key, nonce, counter) {
			t.Errorf("P6.2: bit %d turned", bit)
		}
		if other, is := seen[got]; is {
			t.Errorf("P6.2: bits %d and %d turned have one block", bit, other)
		}
		seen[got] = bit
	}
}

// P6.3: texts of each length up to some blocks, and at the edges of longer ones, from each counter on; combined once more they are as they were.
func TestCryptOfEachLength(t *testing.T) {
	key, nonce := someText(32, 6), someText(12, 7)
	lengths := edges()
	for n := range 200 {
		lengths = append(lengths, n)
	}
	for _, n := range lengths {
		s := someText(n, n)
		for _, counter := range []uint32{0, 1, 77, math.MaxUint32 - 1, math.MaxUint32} {
			got := mustCrypt(t, key, nonce, counter, s)
			if got != wantCrypt(key, nonce, counter, s) {
				t.Fatalf("P6.3: %d bytes from counter %d on", n, counter)
			}
			if mustCrypt(t, key, nonce, counter, got) != s {
				t.Fatalf("P6.3: %d bytes from counter %d on, combined once more", n, counter)
			}
		}
	}
}

// P6.3: also bytes that aren't told as runes.
func TestCryptOfOtherTexts(t *testing.T) {
	for b := range 256 {
		s := strings.Repeat(string([]byte{byte(b)}), 65)
		if mustCrypt(t, countKey, zeroNonce, 3, s) != wantCrypt(countKey, zeroNonce, 3, s) {
			t.Errorf("P6.3: the byte %02x", b)
		}
	}
}

// P6.3: zeros, combined, are the blocks one behind the other; from the greatest counter on the first ones follow, and nothing runs over into the nonce.
func TestCryptIsBlocks(t *testing.T) {
	for _, nonce := range []string{zeroNonce, lastNonce, someText(12, 8), strings.Repeat("\xff", 12)} {
		for _, counter := range someCounters() {
			var want strings.Builder
			next := counter
			for range 5 {
				want.WriteString(mustBlock(t, countKey, nonce, next))
				next = uint32((uint64(next) + 1) % (1 << 32))
			}
			for _, length := range []int{64, 65, 127, 128, 129, 300, 320} {
				if mustCrypt(t, countKey, nonce, counter, strings.Repeat("\x00", length)) != want.String()[:length] {
					t.Errorf("P6.3: %d zeros from counter %d on aren't the blocks", length, counter)
				}
			}
		}
	}
}

// P6.3: parts of whole blocks, each from its own counter on, are the parts of the whole.
func TestCryptInParts(t *testing.T) {
	key, nonce := someText(32, 9), someText(12, 10)
	for _, length := range []int{1, 64, 65, 640, 1000, 5000, api.MaxText - 1, api.MaxText} {
		s := someText(length, 11)
		for _, counter := range []uint32{0, 1, math.MaxUint32 - 3, math.MaxUint32} {
			whole := mustCrypt(t, key, nonce, counter, s)
			for _, blocks := range []int{1, 2, 3, 7, 512, 1023} {
				var parts strings.Builder
				for at := 0; at < length; at += 64 * blocks {
					parts.WriteString(mustCrypt(t, key, nonce, counter+uint32(at/64), s[at:min(at+64*blocks, length)]))
				}
				if parts.String() != whole {
					t.Errorf("P6.3: %d bytes from counter %d on, in parts of %d blocks", length, counter, blocks)
				}
			}
		}
	}
}

// P6.3: the longest text, by another program's answer: the digest of what OpenSSL makes of MaxText zeros.
func TestCryptOfLongest(t *testing.T) {
	for _, c := range []struct {
		counter uint32
		want    string
	}{
		{0, "cc1eb31548700cd4ecd2ff13d98587c59d624c00167348d57cf2264d5ca56358"},
		{1, "193926306f785614f2a68da46b48d183439535f2ced91d164f7e8e9a541fd49c"},
		{0xfffffc00, "1cb2c662be679a71b264788d3755dff03f1acd3b1d7dcd5767565e23f1bb5261"}, // the last block is that of the greatest counter
	} {
		d := sha256.Sum256([]byte(mustCrypt(t, countKey, "\x00\x00\x00\x09\x00\x00\x00\x4a\x00\x00\x00\x00", c.counter, strings.Repeat("\x00", api.MaxText))))
		if got := hex.EncodeToString(d[:]); got != c.want {
			t.Errorf("P6.3: MaxText zeros from counter %d on have the digest %s, want %s", c.counter, got, c.want)
		}
	}
}

// P1 and P2: calls between calls, refused ones among them, change no answer.
func TestNothingIsKept(t *testing.T) {
	text := someText(150, 12)
	block, crypt := wantBlock(countKey, lastNonce, 5), wantCrypt(lastKey, zeroNonce, 9, text)
	for i := range 20 {
		if mustBlock(t, countKey, lastNonce, 5) != block {
			t.Fatal("P2: a block hangs on the calls ahead of it")
		}
		Crypt(someText(32, i), someText(12, i), uint32(i), text)
		Crypt(someText(i, i), someText(i, i), uint32(i), text)
		if mustCrypt(t, lastKey, zeroNonce, 9, text) != crypt {
			t.Fatal("P2: a text combined hangs on the calls ahead of it")
		}
		Quarter(uint32(i), 1, 2, 3)
		Block(someText(i, i), someText(i, i), uint32(i))
	}
}

// Ways, layer 6: the state is an array of sixteen words, so that a block leaves the one that it is made of as it was; the standard's example of it is RFC 8439, 2.3.2.
func TestStateIsAnArray(t *testing.T) {
	begun, e := begin(countKey, "\x00\x00\x00\x09\x00\x00\x00\x4a\x00\x00\x00\x00", 1)
	var state [16]uint32 = begun
	want := [16]uint32{
		0x61707865, 0x3320646e, 0x79622d32, 0x6b206574, 0x03020100, 0x07060504, 0x0b0a0908, 0x0f0e0d0c,
		0x13121110, 0x17161514, 0x1b1a1918, 0x1f1e1d1c, 0x00000001, 0x09000000, 0x4a000000, 0x00000000,
	}
	if state != want || e != api.OK {
		t.Errorf("Ways: the state is %08x, error %d, want %08x", state, e, want)
	}
	if first := block(begun); block(begun) != first || begun != want {
		t.Error("Ways: a block changed the state that it is made of, so that it isn't handed on as an array")
	}
}

// Ways, layer 6: the rounds are counted by a range over an integer, of which there are twenty.
func TestWays(t *testing.T) {
	file, err := parser.ParseFile(token.NewFileSet(), "chacha.go", nil, 0)
	if err != nil {
		t.Fatal(err)
	}
	counted := false
	ast.Inspect(file, func(n ast.Node) bool {
		if r, ok := n.(*ast.RangeStmt); ok && turns(r.Body) {
			counted = counted || isRounds(r.X)
		}
		return true
	})
	if !counted || rounds != 20 {
		t.Error("Ways: the rounds aren't counted by a range over an integer")
	}
}

// turns: is a round made there?
func turns(body *ast.BlockStmt) bool {
	found := false
	ast.Inspect(body, func(n ast.Node) bool {
		if c, ok := n.(*ast.CallExpr); ok {
			f, ok := c.Fun.(*ast.Ident)
			found = found || ok && f.Name == "turn"
		}
		return true
	})
	return found
}

// isRounds: is it the number of rounds, by its name or written out?
func isRounds(x ast.Expr) bool {
	switch y := x.(type) {
	case *ast.Ident:
		return y.Name == "rounds"
	case *ast.BasicLit:
		n, err := strconv.Atoi(y.Value)
		return err == nil && n == rounds
	}
	return false
}
