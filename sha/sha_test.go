package sha

import (
	"crypto/sha256"
	"encoding"
	"encoding/binary"
	"encoding/hex"
	"go/ast"
	"go/parser"
	"go/token"
	"hash"
	"math/big"
	"slices"
	"strings"
	"testing"

	"cofferdam/api"
)

// want is the digest by Go's own library, which shares nothing with the code under test.
func want(s string) string {
	d := sha256.Sum256([]byte(s))
	return string(d[:])
}

// someText looks like chance, and is the same in each run.
func someText(length, seed int) string {
	b := make([]byte, length)
	x := uint32(seed)*2246822519 + 777
	for i := range b {
		x = x*1664525 + 1013904223
		b[i] = byte(x >> 24)
	}
	return string(b)
}

// inPieces is the digest of a text that comes in pieces; what Len tells is looked at behind each.
func inPieces(t *testing.T, pieces ...string) string {
	t.Helper()
	h, length := New(), 0
	for _, s := range pieces {
		h.Write(s)
		length += len(s)
		if h.Len() != length {
			t.Fatalf("P5.2: Len is %d behind %d bytes", h.Len(), length)
		}
	}
	return h.Sum()
}

// edges is lengths at, below and above the ends of blocks, and where the number of bits just fits into the last block and just doesn't.
func edges() []int {
	var l []int
	for _, end := range []int{0, 64, 128, 192, 1024, api.MaxText} {
		for _, near := range []int{-10, -9, -8, -7, -2, -1, 0, 1, 2, 54, 55, 56, 57, 58} {
			if end+near >= 0 {
				l = append(l, end+near)
			}
		}
	}
	return l
}

// P5.1 and P5.2: FIPS 180's examples, and those that NIST gives beside them.
func TestStandardExamples(t *testing.T) {
	for _, c := range []struct{ s, want string }{
		{"abc", "ba7816bf8f01cfea414140de5dae2223b00361a396177a9cb410ff61f20015ad"},
		{"abcdbcdecdefdefgefghfghighijhijkijkljklmklmnlmnomnopnopq", "248d6a61d20638b8e5c026930c3e6039a33ce45964ff2167f6ecedd419db06c1"},
		{"abcdefghbcdefghicdefghijdefghijkefghijklfghijklmghijklmnhijklmnoijklmnopjklmnopqklmnopqrlmnopqrsmnopqrstnopqrstu", "cf5b16a778af8380036ce59e7b0492370b249b11e8f07a51afac45037afee9d1"},
		{strings.Repeat("a", 1000000), "cdc76e5c9914fb9281a1c7e284d73e67f1809a48a497200e046d39ccc7112cd0"},
		{"", "e3b0c44298fc1c149afbf4c8996fb92427ae41e4649b934ca495991b7852b855"},
		{"\xbd", "68325720aabd7c82f30f554b313d0570c95accbb7dc4b5aae11204c08ffe732b"},
		{"\xc9\x8c\x8e\x55", "7abc22c0ae5af26ce93dbb94433a0e0b2e119d014f8e7f65bd56c61ccccd9504"},
		{strings.Repeat("\x00", 55), "02779466cdec163811d078815c633f21901413081449002f24aa3e80f0b88ef7"},
		{strings.Repeat("\x00", 56), "d4817aa5497628e7c77e6b606107042bbba3130888c5f47a375e6179be789fbb"},
		{strings.Repeat("\x00", 57), "65a16cb7861335d5ace3c60718b5052e44660726da4cd13bb745381b235a1785"},
		{strings.Repeat("\x00", 64), "f5a5fd42d16a20302798ef6ed309979b43003d2320d9f0e8ea9831a92759fb4b"},
		{strings.Repeat("\x00", 1000), "541b3e9daa09b20bf85fa273e5cbd3e80185aa4ec298e765db87742b70138a53"},
		{strings.Repeat("A", 1000), "c2e686823489ced2017f6059b8b239318b6364f6dcd835d0a519105a1eadd6e4"},
		{strings.Repeat("U", 1005), "f4d62ddec0f3dd90ea1380fa16a5ff8dc4c54b21740650f24afc4120903552b0"},
		{strings.Repeat("\x00", 1000000), "d29751f2649b32ff572b5e0a9f541ea660a50f94ff0beedfb0b692b924cc8025"},
	} {
		if got := hex.EncodeToString([]byte(Sum(c.s))); got != c.want {
			t.Errorf("P5.1: the digest of %d bytes is %s, want %s", len(c.s), got, c.want)
		}
		half := len(c.s) / 2
		if got := hex.EncodeToString([]byte(inPieces(t, c.s[:half], c.s[half:]))); got != c.want {
			t.Errorf("P5.2: the digest of %d bytes in two pieces is %s, want %s", len(c.s), got, c.want)
		}
	}
}

// P5.1
func TestSumOfEachLength(t *testing.T) {
	text := someText(api.MaxText+100, 1)
	lengths := edges()
	for n := range 400 {
		lengths = append(lengths, n)
	}
	for _, n := range lengths {
		for _, s := range []string{text[:n], text[len(text)-n:], strings.Repeat("\xff", n), strings.Repeat("\x00", n), strings.Repeat("\x80", n)} {
			if got := Sum(s); got != want(s) || len(got) != api.Digest {
				t.Errorf("P5.1: the digest of %d bytes is %x, want %x", n, got, want(s))
			}
		}
	}
}

// P5.1: also what isn't told as runes, and texts that are far longer than api's MaxText, which is no limit of this layer.
func TestSumOfOtherTexts(t *testing.T) {
	for b := range 256 {
		s := string([]byte{byte(b)})
		if Sum(s) != want(s) {
			t.Errorf("P5.1: the digest of the byte %02x", b)
		}
	}
	for _, s := range []string{"a\x00", "a\x00\x00", "\xc3\xa9", "\xe9", "\xef\xbf\xbd", "\x80", strings.Repeat("\x80", 2), someText(1<<20, 2), someText(1<<20+1, 3), someText(3<<20-1, 4)} {
		if Sum(s) != want(s) {
			t.Errorf("P5.1: the digest of %d bytes, %.10q", len(s), s)
		}
	}
}

// P5.1: each bit counts, at each place of a text of more than one block.
func TestSumHangsOnEachBit(t *testing.T) {
	plain := []byte(someText(130, 5))
	seen := map[string]int{Sum(string(plain)): -1}
	for bit := range len(plain) * 8 {
		b := slices.Clone(plain)
		b[bit/8] ^= 1 << (bit % 8)
		d := Sum(string(b))
		if d != want(string(b)) {
			t.Errorf("P5.1: bit %d turned", bit)
		}
		if other, is := seen[d]; is {
			t.Errorf("P5.1: bits %d and %d turned have one digest", bit, other)
		}
		seen[d] = bit
	}
}

// P5.2
func TestNewIsOfNoBytes(t *testing.T) {
	h := New()
	if h == nil || h.Len() != 0 || h.Sum() != want("") || h.Sum() != Sum("") {
		t.Error("P5.2: a new digest isn't that of no bytes")
	}
	for range 3 {
		h.Write("")
		if h.Len() != 0 || h.Sum() != want("") {
			t.Error("P5.2: an empty piece changed a new digest")
		}
	}
}

// P5.2: three pieces, cut at each pair of places; among them are empty pieces, and pieces that end within, at and behind a block's end.
func TestThreePieces(t *testing.T) {
	for _, length := range []int{0, 1, 55, 56, 57, 63, 64, 65, 127, 128, 129, 200} {
		s := someText(length, length)
		whole := want(s)
		for j := range length + 1 {
			for i := range j + 1 {
				if inPieces(t, s[:i], s[i:j], s[j:]) != whole {
					t.Errorf("P5.2: %d bytes, cut at %d and %d", length, i, j)
				}
			}
		}
	}
}

// P5.2: pieces of one length, from single bytes to more than two blocks, with empty ones between.
func TestPiecesOfOneLength(t *testing.T) {
	for _, length := range []int{0, 1, 63, 64, 65, 119, 120, 128, 500, 1000, 4096} {
		s := someText(length, length)
		for piece := 1; piece <= 150; piece++ {
			var plain, spaced []string
			for at := 0; at < length; at += piece {
				next := s[at:min(at+piece, length)]
				plain = append(plain, next)
				spaced = append(spaced, "", next, "", "")
			}
			if inPieces(t, plain...) != want(s) || inPieces(t, spaced...) != want(s) {
				t.Errorf("P5.2: %d bytes in pieces of %d", length, piece)
			}
		}
	}
}

// P5.2
func TestLongPieces(t *testing.T) {
	s := someText(1<<20+77, 8)
	for _, cut := range []int{0, 1, 63, 64, 65, api.MaxText, 1 << 19, 1<<20 - 1, 1 << 20, len(s)} {
		if inPieces(t, s[:cut], s[cut:]) != want(s) || inPieces(t, "x", s[:cut], "", s[cut:], "y") != want("x"+s+"y") {
			t.Errorf("P5.2: %d bytes, cut at %d", len(s), cut)
		}
	}
}

// P5.2: a digest that is asked for on the way, twice, tells what there is so far, and goes on as if it hadn't been asked.
func TestSumOnTheWay(t *testing.T) {
	s := someText(400, 9)
	for _, piece := range []int{1, 3, 55, 56, 57, 63, 64, 65, 100, 128} {
		h := New()
		for at := 0; at < len(s); at += piece {
			next := min(at+piece, len(s))
			h.Write(s[at:next])
			for range 2 {
				if h.Sum() != want(s[:next]) {
					t.Fatalf("P5.2: pieces of %d: another digest of the first %d bytes", piece, next)
				}
				if h.Len() != next {
					t.Fatalf("P5.2: pieces of %d: Len is %d behind %d bytes", piece, h.Len(), next)
				}
			}
		}
	}
}

// P5.2: at each edge, once asked and gone on with.
func TestGoOnBehindSum(t *testing.T) {
	for _, n := range edges() {
		s := someText(n, n)
		for _, more := range []string{"", "\x80", "\x00", someText(64, 10), someText(129, 11)} {
			h := New()
			h.Write(s)
			first := h.Sum()
			h.Write(more)
			if first != want(s) || h.Sum() != want(s+more) || h.Len() != n+len(more) {
				t.Errorf("P5.2: %d bytes, and %d more behind the digest", n, len(more))
			}
		}
	}
}

// P2 and P5.2: digests that are under way side by side, and whole ones between, have nothing to do with one another.
func TestSideBySide(t *testing.T) {
	a, b := someText(300, 12), someText(300, 13)
	for _, lead := range []int{0, 1, 60, 64, 70} {
		x, y := New(), New()
		x.Write(a[:lead])
		for i := lead; i < len(a); i++ {
			x.Write(a[i : i+1])
			y.Write(b[i-lead : i-lead+1])
			if x.Len() != i+1 || y.Len() != i+1-lead {
				t.Fatalf("P2: Len is %d and %d", x.Len(), y.Len())
			}
			if Leaf(b[:i]) != want("\x00"+b[:i]) || x.Sum() != want(a[:i+1]) || y.Sum() != want(b[:i+1-lead]) {
				t.Fatalf("P2: two digests, %d bytes apart, at %d", lead, i)
			}
		}
	}
}

// P5.2
func TestNil(t *testing.T) {
	var h *Hash
	for _, s := range []string{"", "abc", someText(64, 14), someText(1000, 15)} {
		h.Write(s)
		if h.Sum() != "" || h.Len() != 0 || h != nil {
			t.Errorf("P5.2: a nil digest behind %d bytes: %x, %d", len(s), h.Sum(), h.Len())
		}
	}
	if New().Sum() != want("") {
		t.Error("P2: what was written to a nil digest stands in a new one")
	}
}

// P5.3
func TestKinds(t *testing.T) {
	kinds := []struct {
		name  string
		call  func(string) string
		first string
		empty string
	}{
		{"Leaf", Leaf, "\x00", "6e340b9cffb37a989ca544e6bb780a2c78901d3fb33738768511a30617afa01d"},
		{"Node", Node, "\x01", "4bf5122f344554c53bde2ebb8cd2b7e3d1600ad631c385a5d7cce23c7785459a"},
		{"Top", Top, "\x02", "dbc1b4c900ffe48d575b5da5c638040125f65db0fe3e24494b76ea986457d986"},
	}
	lengths := edges()
	for n := range 150 {
		lengths = append(lengths, n)
	}
	text := someText(api.MaxText+100, 16)
	for _, k := range kinds {
		if got := hex.EncodeToString([]byte(k.call(""))); got != k.empty {
			t.Errorf("P5.3: %s of the empty text is %s, want %s", k.name, got, k.empty)
		}
		for _, n := range lengths {
			s := text[:n]
			if got := k.call(s); got != want(k.first+s) || got != Sum(k.first+s) || len(got) != api.Digest {
				t.Errorf("P5.3: %s of %d bytes is %x, want %x", k.name, n, got, want(k.first+s))
			}
		}
	}
	for _, s := range []string{"", "x", "\x00", "\x01", "\x02", text[:64]} {
		l := []string{Sum(s), Leaf(s), Node(s), Top(s)}
		slices.Sort(l)
		if len(slices.Compact(l)) != 4 {
			t.Errorf("P5.3: two kinds of %q have one digest", s)
		}
	}
}

// P5.1 and P5.2: from 2^29 bytes on the number of bits has more than one word. NIST's example of so many bytes; Go's own library makes the state that most of them lead to, since it is there in less time.
func TestManyBits(t *testing.T) {
	const length, own = 1 << 29, 1 << 20
	other := sha256.New()
	piece := slices.Repeat([]byte("Z"), own)
	for range length/own - 1 {
		other.Write(piece)
	}
	h := behind(t, other, length-own)
	h.Write(strings.Repeat("Z", own))
	const digest = "15a1868c12cc53951e182344277447cd0979536badcc512ad24c67e9b2d4f3dd"
	if got := hex.EncodeToString([]byte(h.Sum())); got != digest || h.Len() != length {
		t.Errorf("P5.1: the digest of %d bytes is %s, want %s", length, got, digest)
	}
	h.Write("Z")
	other.Write(append(piece, 'Z'))
	if h.Sum() != string(other.Sum(nil)) || h.Len() != length+1 {
		t.Errorf("P5.2: the digest of %d bytes is %x", length+1, h.Sum())
	}
}

// behind is a digest under way with the state that the library's is in, behind so many bytes in whole blocks. The library writes it behind a mark of four bytes.
func behind(t *testing.T, other hash.Hash, length int) *Hash {
	t.Helper()
	b, err := other.(encoding.BinaryMarshaler).MarshalBinary()
	if err != nil {
		t.Fatal(err)
	}
	h := New()
	h.length = length
	for i := range h.state {
		h.state[i] = binary.BigEndian.Uint32(b[4+4*i:])
	}
	return h
}

// P5.1: lengths whose bits run over into the higher word, of the ending alone: it makes the last block whole, and tells the bits.
func TestEnding(t *testing.T) {
	for _, start := range []int{0, 1<<29 - 64, 1 << 29, 1<<31 - 129} {
		for length := start; length < start+128; length++ {
			s := ending(length)
			if (length+len(s))%64 != 0 || len(s) < 9 || len(s) > 72 || s[0] != 0x80 || strings.Trim(s[1:len(s)-8], "\x00") != "" {
				t.Errorf("P5.1: the ending of %d bytes is %x", length, s)
			}
			if bits := binary.BigEndian.Uint64([]byte(s[len(s)-8:])); bits != uint64(length)*8 {
				t.Errorf("P5.1: the ending of %d bytes tells %d bits", length, bits)
			}
		}
	}
}

// primes is the first n of them.
func primes(n int) []int64 {
	var l []int64
	for p := int64(2); len(l) < n; p++ {
		if !slices.ContainsFunc(l, func(q int64) bool { return p%q == 0 }) {
			l = append(l, p)
		}
	}
	return l
}

// cubeRootBits is the first 32 bits behind the point of p's cube root: the lowest of the greatest number whose cube isn't above p times 2^96.
func cubeRootBits(p int64) uint32 {
	limit := new(big.Int).Lsh(big.NewInt(p), 96)
	root := new(big.Int)
	for bit := 36; bit >= 0; bit-- {
		next := new(big.Int).SetBit(root, bit, 1)
		if cube := new(big.Int).Exp(next, big.NewInt(3), nil); cube.Cmp(limit) <= 0 {
			root = next
		}
	}
	return uint32(root.Uint64())
}

// squareRootBits likewise, of the square root.
func squareRootBits(p int64) uint32 {
	return uint32(new(big.Int).Sqrt(new(big.Int).Lsh(big.NewInt(p), 64)).Uint64())
}

// Ways, layer 5: the constant table has what the standard says of it, and the state that is begun with too.
func TestConstants(t *testing.T) {
	for i, p := range primes(64) {
		if constants[i] != cubeRootBits(p) {
			t.Errorf("Ways: the constant of round %d is %08x, want %08x", i, constants[i], cubeRootBits(p))
		}
	}
	h := New()
	for i, p := range primes(8) {
		if h.state[i] != squareRootBits(p) {
			t.Errorf("Ways: word %d of the first state is %08x, want %08x", i, h.state[i], squareRootBits(p))
		}
	}
}

// Ways, layer 5: the state is an array, so that a copy of a digest under way goes on by itself.
func TestStateIsAnArray(t *testing.T) {
	a, b := someText(100, 17), someText(200, 18)
	h := New()
	h.Write(a)
	other := *h
	h.Write(b)
	other.Write(a)
	if h.Sum() != want(a+b) || other.Sum() != want(a+a) {
		t.Error("Ways: a copy of a digest shares its memory, so that it isn't made of arrays")
	}
	var state [8]uint32 = h.state
	h.Write(b)
	if state == h.state {
		t.Error("Ways: more blocks left the state as it was")
	}
}

// Ways, layer 5: the round's constants stand in a table at package level, which a function reads; words are moved by copy, where the block comes in and in each round.
func TestWays(t *testing.T) {
	file, err := parser.ParseFile(token.NewFileSet(), "sha.go", nil, 0)
	if err != nil {
		t.Fatal(err)
	}
	table, read := false, false
	copies := map[string]int{}
	for _, d := range file.Decls {
		switch x := d.(type) {
		case *ast.GenDecl:
			table = table || x.Tok == token.VAR && isConstants(x.Specs[0].(*ast.ValueSpec))
		case *ast.FuncDecl:
			ast.Inspect(x, func(n ast.Node) bool {
				switch y := n.(type) {
				case *ast.IndexExpr:
					read = read || isNamed(y.X, "constants")
				case *ast.CallExpr:
					if isNamed(y.Fun, "copy") {
						copies[x.Name.Name]++
					}
				}
				return true
			})
		}
	}
	if !table || !read {
		t.Error("Ways: the constants are no constant table that is read")
	}
	if copies["schedule"] == 0 || copies["turn"] == 0 {
		t.Error("Ways: words aren't moved by copy")
	}
}

// isConstants: is it the constants, written out as an array of 64?
func isConstants(s *ast.ValueSpec) bool {
	if s.Names[0].Name != "constants" || len(s.Values) != 1 {
		return false
	}
	l, ok := s.Values[0].(*ast.CompositeLit)
	if !ok || len(l.Elts) != 64 {
		return false
	}
	a, ok := l.Type.(*ast.ArrayType)
	return ok && a.Len != nil
}

func isNamed(x ast.Expr, name string) bool {
	i, ok := x.(*ast.Ident)
	return ok && i.Name == name
}
