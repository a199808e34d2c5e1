package aead

import (
	"crypto/sha256"
	"encoding/binary"
	"encoding/hex"
	"go/ast"
	"go/parser"
	"go/token"
	"strings"
	"testing"

	"cofferdam/api"
	"cofferdam/chacha"
	"cofferdam/poly"
)

// most is how many bytes the document lets a text have.
const most = 16384

// someText looks like chance, and is the same in each run.
func someText(length, seed int) string {
	b := make([]byte, length)
	x := uint32(seed)*2246822519 + 777
	for i := range b {
		x = x*1664525 + 1013904223
		b[i] = byte(x >> 24)
	}
	return string(b)
}

func bytesOf(t *testing.T, sixteens string) string {
	t.Helper()
	b, err := hex.DecodeString(sixteens)
	if err != nil {
		t.Fatal(err)
	}
	return string(b)
}

// turnedBit is a text with one bit another one.
func turnedBit(s string, bit int) string {
	b := []byte(s)
	b[bit/8] ^= 1 << (bit % 8)
	return string(b)
}

// wantTag is the document's sentence on the tag, by the layers below, whose own tests hold them.
func wantTag(t *testing.T, key, nonce, with, bare string) string {
	t.Helper()
	block, e := chacha.Block(key, nonce, 0)
	if e != api.OK {
		t.Fatalf("a key of %d bytes, a nonce of %d: error %d", len(key), len(nonce), e)
	}
	var of []byte
	for _, s := range []string{with, bare} {
		of = append(of, s...)
		for len(of)%16 != 0 { // each part begins at a multiple of 16, so it ends at one too
			of = append(of, 0)
		}
	}
	of = binary.LittleEndian.AppendUint64(of, uint64(len(with)))
	of = binary.LittleEndian.AppendUint64(of, uint64(len(bare)))
	tag, e := poly.Sum(block[:32], string(of))
	if e != api.OK {
		t.Fatalf("a tag of %d bytes: error %d", len(of), e)
	}
	return tag
}

// wantSeal likewise, of what Seal answers.
func wantSeal(t *testing.T, key, nonce, with, plain string) string {
	t.Helper()
	bare, e := chacha.Crypt(key, nonce, 1, plain)
	if e != api.OK {
		t.Fatalf("%d bytes: error %d", len(plain), e)
	}
	return bare + wantTag(t, key, nonce, with, bare)
}

// mustSeal is what Seal answers where no error is due.
func mustSeal(t *testing.T, key, nonce, with, plain string) string {
	t.Helper()
	got, e := Seal(key, nonce, with, plain)
	if e != api.OK || len(got) != len(plain)+16 {
		t.Fatalf("P8.1: %d bytes with %d: %d bytes, error %d", len(plain), len(with), len(got), e)
	}
	return got
}

// mustOpen likewise, of Open.
func mustOpen(t *testing.T, key, nonce, with, sealed string) string {
	t.Helper()
	got, e := Open(key, nonce, with, sealed)
	if e != api.OK || len(got) != len(sealed)-16 {
		t.Fatalf("P8.2: %d sealed bytes with %d: %d bytes, error %d", len(sealed), len(with), len(got), e)
	}
	return got
}

// holdOpen holds that Open answers an error, and nothing beside it.
func holdOpen(t *testing.T, what, key, nonce, with, sealed string, want api.Errno) {
	t.Helper()
	if got, e := Open(key, nonce, with, sealed); got != "" || e != want {
		t.Errorf("P8.2: %s: %d bytes, error %d, want %d", what, len(got), e, want)
	}
}

// holdBoth holds that a text is sealed as the document says, and opened as it was.
func holdBoth(t *testing.T, key, nonce, with, plain string) {
	t.Helper()
	sealed := mustSeal(t, key, nonce, with, plain)
	if want := wantSeal(t, key, nonce, with, plain); sealed != want {
		t.Fatalf("P8.1: %d bytes with %d: ends with %x, want %x, or differs ahead of that", len(plain), len(with), sealed[len(plain):], want[len(plain):])
	}
	if got := mustOpen(t, key, nonce, with, sealed); got != plain {
		t.Fatalf("P8.2: %d bytes with %d aren't opened as they were", len(plain), len(with))
	}
}

// P8.1 and P8.2: RFC 8439, 2.8.2 and appendix A.5.
func TestExamples(t *testing.T) {
	for _, c := range []struct{ name, key, nonce, with, plain, want string }{
		{"2.8.2", "808182838485868788898a8b8c8d8e8f909192939495969798999a9b9c9d9e9f", "070000004041424344454647", "50515253c0c1c2c3c4c5c6c7",
			"Ladies and Gentlemen of the class of '99: If I could offer you only one tip for the future, sunscreen would be it.",
			"d31a8d34648e60db7b86afbc53ef7ec2a4aded51296e08fea9e2b5a736ee62d63dbea45e8ca9671282fafb69da92728b1a71de0a9e060b2905d6a5b67ecd3b3692ddbd7f2d778b8c9803aee328091b58fab324e4fad675945585808b4831d7bc3ff4def08e4b7a9de576d26586cec64b6116" + "1ae10b594f09e26a7e902ecbd0600691"},
		{"A.5", "1c9240a5eb55d38af333888604f6b5f0473917c1402b80099dca5cbc207075c0", "000000000102030405060708", "f33388860000000000004e91",
			"Internet-Drafts are draft documents valid for a maximum of six months and may be updated, replaced, or obsoleted by other documents at any time. It is inappropriate to use Internet-Drafts as reference material or to cite them other than as /\xe2\x80\x9cwork in progress./\xe2\x80\x9d",
			"64a0861575861af460f062c79be643bd5e805cfd345cf389f108670ac76c8cb24c6cfc18755d43eea09ee94e382d26b0bdb7b73c321b0100d4f03b7f355894cf332f830e710b97ce98c8a84abd0b948114ad176e008d33bd60f982b1ff37c8559797a06ef4f0ef61c186324e2b3506383606907b6a7c02b0f9f6157b53c867e4b9166c767b804d46a59b5216cde7a4e99040c5a40433225ee282a1b0a06c523eaf4534d7f83fa1155b0047718cbc546a0d072b04b3564eea1b422273f548271a0bb2316053fa76991955ebd63159434ecebb4e466dae5a1073a6727627097a1049e617d91d361094fa68f0ff77987130305beaba2eda04df997b714d6c6f2c29a6ad5cb4022b02709b" + "eead9d67890cbb22392336fea1851f38"},
	} {
		key, nonce, with, want := bytesOf(t, c.key), bytesOf(t, c.nonce), bytesOf(t, c.with), bytesOf(t, c.want)
		if got := mustSeal(t, key, nonce, with, c.plain); got != want {
			t.Errorf("P8.1: RFC 8439, %s: %x, want %s", c.name, got, c.want)
		}
		if got := mustOpen(t, key, nonce, with, want); got != c.plain {
			t.Errorf("P8.2: RFC 8439, %s: %q", c.name, got)
		}
	}
}

// P8.1: RFC 8439, 2.6.2 and appendix A.4: the keys of tags. Nothing, sealed with nothing, is the tag of two lengths 0 by such a key.
func TestTagKeyExamples(t *testing.T) {
	const zeroNonce, lastNonce = "000000000000000000000000", "000000000000000000000002"
	for _, c := range []struct{ name, key, nonce, want string }{
		{"2.6.2", "808182838485868788898a8b8c8d8e8f909192939495969798999a9b9c9d9e9f", "000000000001020304050607", "8ad5a08b905f81cc815040274ab29471a833b637e3fd0da508dbb8e2fdd1a646"},
		{"A.4 1", strings.Repeat("00", 32), zeroNonce, "76b8e0ada0f13d90405d6ae55386bd28bdd219b8a08ded1aa836efcc8b770dc7"},
		{"A.4 2", strings.Repeat("00", 31) + "01", lastNonce, "ecfa254f845f647473d3cb140da9e87606cb33066c447b87bc2666dde3fbb739"},
		{"A.4 3", "1c9240a5eb55d38af333888604f6b5f0473917c1402b80099dca5cbc207075c0", lastNonce, "965e3bc6f9ec7ed9560808f4d229f94b137ff275ca9b3fcbdd59deaad23310ae"},
	} {
		want, _ := poly.Sum(bytesOf(t, c.want), strings.Repeat("\x00", 16))
		if got := mustSeal(t, bytesOf(t, c.key), bytesOf(t, c.nonce), "", ""); got != want {
			t.Errorf("P8.1: RFC 8439, %s: %x, want %x", c.name, got, want)
		}
	}
}

// P8.1: by another program's answers, of texts without bytes up to the longest: digests of what OpenSSL seals, and its tags.
func TestSealAsAnotherProgram(t *testing.T) {
	key := bytesOf(t, "000102030405060708090a0b0c0d0e0f101112131415161718191a1b1c1d1e1f")
	nonce := bytesOf(t, "000000090000004a00000000")
	for _, c := range []struct {
		with, plain  int
		digest, last string
	}{
		{0, 0, "8ebaab5801ee47813fb3455d7ca93ae464ab242641c8bb55fd79b4ede5dc54e6", "8e62f3b3c9fdbfce61fa1a01cbd7e08b"},
		{1, 0, "07a8823f5b3eee12ba7f2a10f1a81abab6b41649c67201b7a84f31242a800a6b", "3341ef5b33a4987bcd0656f230d63e13"},
		{0, 1, "d97aac940a2658d034f1f1d9450732e796a6812a116aaebfd26cd33908b74126", "7e34564da7dd177d3a467f3bba67c4ed"},
		{15, 16, "a841f4fbeb2b3eef453339c6ee66a58e4ddecde1dbc7ed0b89bf73a1a636114e", "d62332f877679dd842a79b91a28b75c4"},
		{16, 15, "d7fd51af4626100579e4e15350b0f956d7582db7b132cf5da20ba31ead52b5f1", "db4b3268610fef0b39ada13835149f9e"},
		{16, 16, "cc6f72fc7cc999827739958cc891659dd1746ae248281ca96843067a88fe4b82", "6904ab9e027c74e88aae7d34713233f2"},
		{17, 17, "8101c58fef3a6b4c4a91470d2855e62ec76197620c0866c7831a434843e60d2f", "5904b8cee33775117e61de3989b92fda"},
		{16384, 0, "d5b2fd46c3af01b2644b6c36f1778c934fff004a3fa3424f8e88cde236bfa016", "6a634426270e6293a6161feae972988a"},
		{0, 16384, "eb4a026c93dca9e740095f1f836ffaaeb10d9d36961d2d5b3add6b49c461c0fb", "ca26151406a18d188ca0fd28a6d70336"},
		{16384, 16384, "56fe45722993a2a79dbd198b31ff9f765b7a0cdc38637384553ab803026e5474", "81267a17bb6b70891150998183c2cb13"},
		{16383, 16383, "a59cea074ff07accaa55f8153c5b3b87e894f36e7123246b121a84c1b61fbd7a", "e45c52bf6aade8fd635a12ba78fe8054"},
		{16369, 16369, "d50d72ec9ef58da4018c7b8efd086980832f66bb9245d26e7de1ebeca866006e", "8e1ed3f749c26cd22517d6288a4b63ab"},
	} {
		with, plain := someText(c.with, c.with+1), someText(c.plain, c.plain+2)
		got := mustSeal(t, key, nonce, with, plain)
		d := sha256.Sum256([]byte(got))
		if hex.EncodeToString(d[:]) != c.digest || hex.EncodeToString([]byte(got[c.plain:])) != c.last {
			t.Errorf("P8.1: %d bytes with %d: the digest %x, the tag %x, want %s and %s", c.plain, c.with, d, got[c.plain:], c.digest, c.last)
		}
		if mustOpen(t, key, nonce, with, got) != plain {
			t.Errorf("P8.2: %d bytes with %d aren't opened as they were", c.plain, c.with)
		}
	}
}

// P8.1 and P8.2: texts of each length up to some units, beside one another, and at the edges of longer ones.
func TestEachLength(t *testing.T) {
	key, nonce := someText(32, 1), someText(12, 2)
	for with := range 50 {
		for plain := range 50 {
			holdBoth(t, key, nonce, someText(with, 3), someText(plain, 4))
		}
	}
	edges := []int{0, 1, 16}
	for _, end := range []int{64, 128, 256, 1024, 4096, most - 16, most} {
		for near := -1; near <= 1; near++ {
			if end+near <= most {
				edges = append(edges, end+near)
			}
		}
	}
	for i, n := range edges {
		holdBoth(t, key, nonce, someText(n, 5), "")
		holdBoth(t, key, nonce, "", someText(n, 6))
		holdBoth(t, key, nonce, someText(n, 7), someText(edges[len(edges)-1-i], 8))
		holdBoth(t, key, nonce, someText(n, 9), someText(n, 10))
	}
}

// P8.1 and P8.2: many keys and nonces, and texts of noughts, of full bytes and of bytes that are no runes.
func TestOtherTexts(t *testing.T) {
	for seed := range 300 {
		holdBoth(t, someText(32, seed), someText(12, seed+1000), someText(seed%37, seed+2000), someText(seed%151, seed+3000))
	}
	for b := range 256 {
		s := strings.Repeat(string([]byte{byte(b)}), 70)
		holdBoth(t, s[:32], s[:12], s[:21], s)
	}
}

// P8.1: ErrShape of each key and nonce that hasn't its bytes, also where one text or both are too long; ErrLong of texts of more than MaxText / 4 bytes, each by itself; and nothing beside either.
func TestSealErrors(t *testing.T) {
	texts := []int{0, 1, 16, most - 1, most, most + 1, most + 16, api.MaxText, api.MaxText + 1}
	for _, k := range []int{0, 1, 16, 31, 32, 33, 64, 1000} {
		for _, n := range []int{0, 1, 8, 11, 12, 13, 24, 1000} {
			key, nonce := someText(k, 11), someText(n, 12)
			for _, with := range texts {
				for _, plain := range texts {
					want := api.OK
					if with > most || plain > most {
						want = api.ErrLong
					}
					if k != 32 || n != 12 {
						want = api.ErrShape
					}
					got, e := Seal(key, nonce, someText(with, 13), someText(plain, 14))
					if e != want || e != api.OK && got != "" || e == api.OK && len(got) != plain+16 {
						t.Errorf("P8.1: a key of %d bytes, a nonce of %d, %d bytes with %d: %d bytes, error %d, want %d", k, n, plain, with, len(got), e, want)
					}
				}
			}
		}
	}
}

// P8.2: ErrShape ahead of ErrShort, that ahead of ErrLong, and that ahead of ErrOpen, wherever several hold; and nothing beside any. None of these texts has its tag.
func TestOpenErrors(t *testing.T) {
	for _, k := range []int{0, 1, 16, 31, 32, 33, 64, 1000} {
		for _, n := range []int{0, 1, 8, 11, 12, 13, 24, 1000} {
			key, nonce := someText(k, 15), someText(n, 16)
			for _, with := range []int{0, 1, 16, most - 1, most, most + 1, api.MaxText + 1} {
				for _, sealed := range []int{0, 1, 15, 16, 17, 32, most, most + 1, most + 15, most + 16, most + 17, api.MaxText + 1} {
					want := api.ErrOpen
					if with > most || sealed > most+16 {
						want = api.ErrLong
					}
					if sealed < 16 {
						want = api.ErrShort
					}
					if k != 32 || n != 12 {
						want = api.ErrShape
					}
					got, e := Open(key, nonce, someText(with, 17), someText(sealed, 18))
					if got != "" || e != want {
						t.Errorf("P8.2: a key of %d bytes, a nonce of %d, %d sealed bytes with %d: %d bytes, error %d, want %d", k, n, sealed, with, len(got), e, want)
					}
				}
			}
		}
	}
}

// P8.2: the shapes and limits hold also of a text that has its tag.
func TestOpenErrorsOfGoodTags(t *testing.T) {
	key, nonce := someText(32, 19), someText(12, 20)
	sealed := mustSeal(t, key, nonce, "", someText(most, 21))
	mustOpen(t, key, nonce, "", sealed)
	for _, wrong := range []string{"", key[:31], key[1:], key + "\x00", "\x00" + key} {
		holdOpen(t, "a key of another length", wrong, nonce, "", sealed, api.ErrShape)
	}
	for _, wrong := range []string{"", nonce[:11], nonce[1:], nonce + "\x00", "\x00" + nonce} {
		holdOpen(t, "a nonce of another length", key, wrong, "", sealed, api.ErrShape)
	}
	for _, n := range []int{most, most + 1} {
		want := api.OK
		if n > most {
			want = api.ErrLong
		}
		with, bare := someText(n, 22), someText(n, 23)
		if got, e := Open(key, nonce, with, wantTag(t, key, nonce, with, "")); got != "" || e != want {
			t.Errorf("P8.2: nothing with %d bytes: %d bytes, error %d, want %d", n, len(got), e, want)
		}
		if got, e := Open(key, nonce, "", bare+wantTag(t, key, nonce, "", bare)); e != want || e != api.OK && got != "" {
			t.Errorf("P8.2: %d bytes and their tag: %d bytes, error %d, want %d", n, len(got), e, want)
		}
	}
}

// P8.2: a sealed text of 16 bytes alone is a tag, and opens as a text without bytes if it is the tag of one.
func TestOpenOfNothing(t *testing.T) {
	key, nonce := someText(32, 24), someText(12, 25)
	for _, with := range []string{"", "a", someText(16, 26), someText(most, 27)} {
		sealed := mustSeal(t, key, nonce, with, "")
		if got, e := Open(key, nonce, with, sealed); got != "" || e != api.OK {
			t.Errorf("P8.2: nothing with %d bytes: %q, error %d", len(with), got, e)
		}
		for n := range 16 {
			holdOpen(t, "the beginning of a tag", key, nonce, with, sealed[:n], api.ErrShort)
			holdOpen(t, "the end of a tag", key, nonce, with, sealed[16-n:], api.ErrShort)
		}
		holdOpen(t, "a byte ahead of a tag", key, nonce, with, "\x00"+sealed, api.ErrOpen)
		holdOpen(t, "a byte behind a tag", key, nonce, with, sealed+"\x00", api.ErrOpen)
		holdOpen(t, "noughts in place of a tag", key, nonce, with, strings.Repeat("\x00", 16), api.ErrOpen)
	}
}

// P8.2: each bit of the tag, of the sealed bytes, of the text with, of the key and of the nonce counts.
func TestOpenHangsOnEachBit(t *testing.T) {
	key, nonce := someText(32, 28), someText(12, 29)
	for _, length := range []int{0, 1, 15, 16, 17, 40} {
		with, plain := someText(length, 30), someText(length, 31)
		sealed := mustSeal(t, key, nonce, with, plain)
		for bit := range len(sealed) * 8 {
			holdOpen(t, "a bit of the sealed text turned", key, nonce, with, turnedBit(sealed, bit), api.ErrOpen)
		}
		for bit := range len(with) * 8 {
			holdOpen(t, "a bit of the text with turned", key, nonce, turnedBit(with, bit), sealed, api.ErrOpen)
		}
		for bit := range len(key) * 8 {
			holdOpen(t, "a bit of the key turned", turnedBit(key, bit), nonce, with, sealed, api.ErrOpen)
		}
		for bit := range len(nonce) * 8 {
			holdOpen(t, "a bit of the nonce turned", key, turnedBit(nonce, bit), with, sealed, api.ErrOpen)
		}
		if mustOpen(t, key, nonce, with, sealed) != plain {
			t.Error("P8.2: behind refused calls the text isn't opened as it was")
		}
	}
}

// P8.2: bytes moved from one of both texts to the other, also whole units, by which nothing but the lengths changes in what the tag is of; and the texts changed for one another.
func TestOpenOfMovedBytes(t *testing.T) {
	key, nonce := someText(32, 32), someText(12, 33)
	for _, length := range []int{1, 16, 17, 48} {
		with := someText(length, 34)
		sealed := mustSeal(t, key, nonce, with, someText(length, 35))
		for n := 1; n <= length; n++ {
			holdOpen(t, "bytes moved from the text with", key, nonce, with[:length-n], with[length-n:]+sealed, api.ErrOpen)
			holdOpen(t, "bytes moved to the text with", key, nonce, with+sealed[:n], sealed[n:], api.ErrOpen)
		}
		holdOpen(t, "the texts changed for one another", key, nonce, sealed[:length], with+sealed[length:], api.ErrOpen)
		holdOpen(t, "the tag moved to the beginning", key, nonce, with, sealed[length:]+sealed[:length], api.ErrOpen)
	}
}

// P8.2: noughts that are added or left out at an end of a text count, though each part is filled up with noughts.
func TestOpenOfOtherNoughts(t *testing.T) {
	key, nonce := someText(32, 36), someText(12, 37)
	for _, length := range []int{0, 1, 15, 16, 17} {
		with := someText(length, 38) + "\x00"
		bare := someText(length, 39) + "\x00"
		last := wantTag(t, key, nonce, with, bare)
		mustOpen(t, key, nonce, with, bare+last)
		for n := 1; n <= 33; n++ {
			noughts := strings.Repeat("\x00", n)
			holdOpen(t, "noughts behind the text with", key, nonce, with+noughts, bare+last, api.ErrOpen)
			holdOpen(t, "noughts behind the sealed bytes", key, nonce, with, bare+noughts+last, api.ErrOpen)
			holdOpen(t, "noughts ahead of the text with", key, nonce, noughts+with, bare+last, api.ErrOpen)
			holdOpen(t, "noughts ahead of the sealed bytes", key, nonce, with, noughts+bare+last, api.ErrOpen)
		}
		holdOpen(t, "a nought less of the text with", key, nonce, with[:length], bare+last, api.ErrOpen)
		holdOpen(t, "a nought less of the sealed bytes", key, nonce, with, bare[:length]+last, api.ErrOpen)
	}
}

// P8.1: one text by two nonces, or with two texts, has two tags; with another text alone the sealed bytes are the same.
func TestSealHangsOnAll(t *testing.T) {
	key, nonce, with, plain := someText(32, 40), someText(12, 41), someText(20, 42), someText(90, 43)
	sealed := mustSeal(t, key, nonce, with, plain)
	other := mustSeal(t, key, nonce, with+"\x00", plain)
	if other[:90] != sealed[:90] || other[90:] == sealed[90:] {
		t.Error("P8.1: another text with changes the sealed bytes, or leaves the tag")
	}
	for _, s := range []string{mustSeal(t, key, turnedBit(nonce, 95), with, plain), mustSeal(t, turnedBit(key, 0), nonce, with, plain)} {
		if s[:90] == sealed[:90] || s[90:] == sealed[90:] {
			t.Error("P8.1: another key or nonce leaves the sealed bytes or the tag")
		}
	}
}

// P1 and P2: calls between calls, refused ones among them, change no answer.
func TestNothingIsKept(t *testing.T) {
	key, nonce, with, plain := someText(32, 44), someText(12, 45), someText(30, 46), someText(150, 47)
	want := wantSeal(t, key, nonce, with, plain)
	for i := range 50 {
		if mustSeal(t, key, nonce, with, plain) != want {
			t.Fatal("P2: a sealed text hangs on the calls ahead of it")
		}
		Seal(someText(i, i), someText(i, i), with, plain)
		Seal(someText(32, i), someText(12, i), with, strings.Repeat("\xff", most+i))
		Open(key, nonce, with, turnedBit(want, i))
		Open(key, nonce, with, want[:i])
		if mustOpen(t, key, nonce, with, want) != plain {
			t.Fatal("P2: an opened text hangs on the calls ahead of it")
		}
	}
}

// Ways, layer 8: the lengths are written by a variadic function, of as many texts as there are: eight bytes each, the lowest first.
func TestLengthsAreVariadic(t *testing.T) {
	var write func(...string) string = lengths
	for _, c := range []struct {
		texts []string
		want  string
	}{
		{nil, ""},
		{[]string{""}, "0000000000000000"},
		{[]string{"abc"}, "0300000000000000"},
		{[]string{"abc", ""}, "0300000000000000" + "0000000000000000"},
		{[]string{someText(12, 0), someText(114, 0)}, "0c00000000000000" + "7200000000000000"},
		{[]string{someText(255, 0), someText(256, 0), someText(most, 0)}, "ff00000000000000" + "0001000000000000" + "0040000000000000"},
		{[]string{someText(0x010203, 0)}, "0302010000000000"},
	} {
		if got := hex.EncodeToString([]byte(write(c.texts...))); got != c.want {
			t.Errorf("Ways: the lengths of %d texts are %s, want %s", len(c.texts), got, c.want)
		}
	}
}

// Ways, layer 8: it is that function by which a tag's lengths are written.
func TestWays(t *testing.T) {
	file, err := parser.ParseFile(token.NewFileSet(), "aead.go", nil, 0)
	if err != nil {
		t.Fatal(err)
	}
	written := false
	for _, d := range file.Decls {
		f, ok := d.(*ast.FuncDecl)
		if !ok || f.Name.Name != "tag" {
			continue
		}
		ast.Inspect(f, func(n ast.Node) bool {
			if c, ok := n.(*ast.CallExpr); ok {
				name, ok := c.Fun.(*ast.Ident)
				written = written || ok && name.Name == "lengths" && len(c.Args) == 2
			}
			return true
		})
	}
	if !written {
		t.Error("Ways: the lengths of a tag aren't written by the variadic function")
	}
}
