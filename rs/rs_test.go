package rs

import (
	"go/ast"
	"go/parser"
	"go/token"
	"math"
	"slices"
	"strings"
	"testing"

	"cofferdam/api"
)

// double multiplies by the generator in numbers, and so shares no step with layer 2.
func double(x byte) byte {
	wide := int(x) * 2
	if wide > 255 {
		wide ^= 0x11d
	}
	return byte(wide)
}

// parity works P and Q out from the last data chunk to the first: Q is what stands so far times the generator, and the chunk.
func parity(data []string) (string, string) {
	p, q := make([]byte, len(data[0])), make([]byte, len(data[0]))
	for i := len(data) - 1; i >= 0; i-- {
		for at := range p {
			p[at] ^= data[i][at]
			q[at] = double(q[at]) ^ data[i][at]
		}
	}
	return string(p), string(q)
}

// whole is the chunks of a stripe.
func whole(data []string) []string {
	p, q := parity(data)
	return append(slices.Clone(data), p, q)
}

// someText looks like chance, and is the same in each run.
func someText(length, seed int) string {
	b := make([]byte, length)
	x := uint32(seed)*2246822519 + 777
	for i := range b {
		x = x*1664525 + 1013904223
		b[i] = byte(x >> 24)
	}
	return string(b)
}

func someTexts(count, length, seed int) []string {
	l := make([]string, count)
	for i := range l {
		l[i] = someText(length, i+100*seed)
	}
	return l
}

// marks is as many as n, set of all but those at the places.
func marks(n int, missing ...int) []bool {
	there := slices.Repeat([]bool{true}, n)
	for _, i := range missing {
		there[i] = false
	}
	return there
}

// withNoise has something else in the places of chunks that aren't there, also texts of other lengths.
func withNoise(chunks []string, there []bool) []string {
	l := slices.Clone(chunks)
	for i := range l {
		if !there[i] {
			l[i] = []string{"", "noise", strings.Repeat("x", api.MaxText+1), l[i] + "x", "\x00"}[i%5]
		}
	}
	return l
}

// otherByte is a list with another byte in one text.
func otherByte(l []string, text, at int) []string {
	l = slices.Clone(l)
	b := []byte(l[text])
	b[at] ^= 1 << (at % 8)
	l[text] = string(b)
	return l
}

func wrongCounts() []int {
	return []int{0, api.MaxData + 1, api.MaxData + 2, api.MaxDim, api.MaxDim + 1, 255, 256, 257, 100000}
}

// P4.1
func TestEncode(t *testing.T) {
	for _, c := range []struct {
		data []string
		p, q string
	}{
		{[]string{"\x01", "\x01"}, "\x00", "\x03"},
		{[]string{"\x00", "\x00"}, "\x00", "\x00"},
		{[]string{"\x01", "\x00"}, "\x01", "\x01"},
		{[]string{"\x00", "\x01"}, "\x01", "\x02"},
		{[]string{"\x00", "\x80"}, "\x80", "\x1d"},
		{[]string{"\x00", "\x00", "\xc0"}, "\xc0", "\x27"},
		{[]string{"", "", ""}, "", ""},
		{[]string{""}, "", ""},
		{[]string{"a \xff\x00b"}, "a \xff\x00b", "a \xff\x00b"},
		{[]string{"\xc3\xa9", "\xc3\xa9"}, "\x00\x00", "\x58\xe6"},
		{[]string{"\x00", "\x00", "\x00", "\x00", "\x00", "\x00", "\x00", "\x01"}, "\x01", "\x80"},
		{[]string{"\x01", "\x01", "\x01", "\x01", "\x01", "\x01", "\x01", "\x01"}, "\x00", "\xff"},
	} {
		if p, q, e := Encode(c.data); p != c.p || q != c.q || e != api.OK {
			t.Errorf("P4.1: Encode(%q) is %x, %x, %v, want %x, %x", c.data, p, q, e, c.p, c.q)
		}
	}
}

// P4.1: of each number of chunks.
func TestEncodeOfEachNumber(t *testing.T) {
	for k := 1; k <= api.MaxData; k++ {
		for _, length := range []int{0, 1, 2, 3, 4, 5, 31, 32, 33, 257, api.MaxText - 1, api.MaxText} {
			data := someTexts(k, length, k)
			want, wantQ := parity(data)
			if p, q, e := Encode(data); p != want || q != wantQ || e != api.OK {
				t.Errorf("P4.1: Encode of %d texts of %d bytes: %v", k, length, e)
			}
		}
	}
}

// P4.1: each element at each place, alone.
func TestEncodeOfEachElement(t *testing.T) {
	all := make([]byte, 256)
	for i := range all {
		all[i] = byte(i)
	}
	for i := range api.MaxData {
		data := slices.Repeat([]string{string(make([]byte, 256))}, api.MaxData)
		data[i] = string(all)
		want, wantQ := parity(data)
		if p, q, e := Encode(data); p != string(all) || p != want || q != wantQ || e != api.OK {
			t.Errorf("P4.1: all elements in chunk %d: %x, %x, %v", i, p, q, e)
		}
	}
}

func refusedEncode(t *testing.T, data []string, want api.Errno) {
	t.Helper()
	if p, q, e := Encode(data); p != "" || q != "" || e != want {
		t.Errorf("P4.1: Encode of %d texts is %d and %d bytes, %v, want %v", len(data), len(p), len(q), e, want)
	}
}

// P4.1: ErrArg ahead of ErrShape ahead of ErrLong.
func TestEncodeRefuses(t *testing.T) {
	long := strings.Repeat("x", api.MaxText+1)
	refusedEncode(t, nil, api.ErrArg)
	refusedEncode(t, []string{"a", "b"}[:0], api.ErrArg)
	for _, n := range wrongCounts() {
		refusedEncode(t, slices.Repeat([]string{"a"}, n), api.ErrArg)
		refusedEncode(t, slices.Repeat([]string{long}, n), api.ErrArg)
		refusedEncode(t, make([]string, n), api.ErrArg)
		if n > 0 {
			refusedEncode(t, append(slices.Repeat([]string{"a"}, n-1), long), api.ErrArg)
		}
	}
	for k := 2; k <= api.MaxData; k++ {
		for at := range k {
			for _, other := range []string{"", "a", "abc", long} {
				data := slices.Repeat([]string{"ab"}, k)
				data[at] = other
				refusedEncode(t, data, api.ErrShape)
			}
			data := slices.Repeat([]string{long}, k)
			data[at] += "x"
			refusedEncode(t, data, api.ErrShape)
			data[at] = long[1:]
			refusedEncode(t, data, api.ErrShape)
		}
	}
	for k := 1; k <= api.MaxData; k++ {
		refusedEncode(t, slices.Repeat([]string{long}, k), api.ErrLong)
		refusedEncode(t, slices.Repeat([]string{strings.Repeat("x", 1<<20)}, k), api.ErrLong)
	}
}

// P4.2
func TestUpdate(t *testing.T) {
	for _, c := range []struct {
		p, q     string
		i        int
		old, now string
		P, Q     string
	}{
		{"\x00", "\x03", 1, "\x01", "\x80", "\x81", "\x1c"},
		{"\x00", "\x03", 0, "\x01", "\x00", "\x01", "\x02"},
		{"\x00", "\x03", 0, "\x01", "\x01", "\x00", "\x03"},
		{"", "", 0, "", "", "", ""},
		{"", "", api.MaxData - 1, "", "", "", ""},
		{"\x00", "\x00", 7, "\x00", "\x01", "\x01", "\x80"},
		{"\x00", "\x00", 7, "\x02", "\x00", "\x02", "\x1d"},
		{"ab", "cd", 0, "ef", "ef", "ab", "cd"},
		{"ab", "cd", 3, "\x00\x00", "ab", "\x00\x00", "\x4c\x53"},
	} {
		if p, q, e := Update(c.p, c.q, c.i, c.old, c.now); p != c.P || q != c.Q || e != api.OK {
			t.Errorf("P4.2: Update(%x, %x, %d, %x, %x) is %x, %x, %v, want %x, %x", c.p, c.q, c.i, c.old, c.now, p, q, e, c.P, c.Q)
		}
	}
}

// P4.2: of parity chunks they make those of the data with the new chunk in it.
func TestUpdateOfStripes(t *testing.T) {
	for k := 1; k <= api.MaxData; k++ {
		for i := range k {
			for _, length := range []int{0, 1, 3, 4, 33, 1000} {
				data := someTexts(k, length, k+i)
				p, q := parity(data)
				old := data[i]
				data[i] = someText(length, 9000+i)
				want, wantQ := parity(data)
				if p, q, e := Update(p, q, i, old, data[i]); p != want || q != wantQ || e != api.OK {
					t.Errorf("P4.2: chunk %d of %d, of %d bytes: %v", i, k, length, e)
				}
			}
		}
	}
}

// P4.2: of any texts, at each i that may be, also of the longest.
func TestUpdateOfAnyTexts(t *testing.T) {
	for i := range api.MaxData {
		for _, length := range []int{1, 5, 256, api.MaxText - 1, api.MaxText} {
			l := someTexts(4, length, i+50)
			p, q, e := Update(l[0], l[1], i, l[2], l[3])
			if e != api.OK || len(p) != length || len(q) != length {
				t.Fatalf("P4.2: i of %d, %d bytes: %d and %d bytes, %v", i, length, len(p), len(q), e)
			}
			for at := range length {
				change := l[2][at] ^ l[3][at]
				if p[at] != l[0][at]^change {
					t.Fatalf("P4.2: i of %d: byte %d of P is %x", i, at, p[at])
				}
				for range i {
					change = double(change)
				}
				if q[at] != l[1][at]^change {
					t.Fatalf("P4.2: i of %d: byte %d of Q is %x", i, at, q[at])
				}
			}
		}
	}
}

func refusedUpdate(t *testing.T, p, q string, i int, old, now string, want api.Errno) {
	t.Helper()
	if a, b, e := Update(p, q, i, old, now); a != "" || b != "" || e != want {
		t.Errorf("P4.2: Update with an i of %d of texts of %d, %d, %d, %d bytes is %d and %d bytes, %v, want %v", i, len(p), len(q), len(old), len(now), len(a), len(b), e, want)
	}
}

// P4.2: ErrArg ahead of ErrShape ahead of ErrLong.
func TestUpdateRefuses(t *testing.T) {
	long := strings.Repeat("x", api.MaxText+1)
	for _, i := range []int{math.MinInt, math.MinInt + 1, math.MinInt32, -256, -255, -8, -1, api.MaxData, api.MaxData + 1, 255, 256, math.MaxInt32, math.MaxUint32 + 1, math.MaxInt - 1, math.MaxInt} {
		refusedUpdate(t, "", "", i, "", "", api.ErrArg)
		refusedUpdate(t, "a", "b", i, "c", "d", api.ErrArg)
		refusedUpdate(t, "a", "b", i, "c", "de", api.ErrArg)
		refusedUpdate(t, long, long, i, long, long, api.ErrArg)
		refusedUpdate(t, long, "b", i, long, long, api.ErrArg)
	}
	for i := range api.MaxData {
		for at := range 4 {
			for _, other := range []string{"", "x", "xyz", long} {
				l := []string{"ab", "cd", "ef", "gh"}
				l[at] = other
				refusedUpdate(t, l[0], l[1], i, l[2], l[3], api.ErrShape)
				l = []string{long, long, long, long}
				l[at] = other + "x"
				refusedUpdate(t, l[0], l[1], i, l[2], l[3], api.ErrShape)
			}
		}
		refusedUpdate(t, "a", "b", i, "cd", "ef", api.ErrShape)
		refusedUpdate(t, "ab", "c", i, "ef", "d", api.ErrShape)
		refusedUpdate(t, "ab", "c", i, "d", "ef", api.ErrShape)
		refusedUpdate(t, long, long, i, long, long, api.ErrLong)
	}
	huge := strings.Repeat("x", 1<<20)
	refusedUpdate(t, huge, huge, 0, huge, huge, api.ErrLong)
}

// forEachLoss calls with the marks of n chunks of which none, one or two aren't there, whichever they are.
func forEachLoss(n int, call func(there []bool)) {
	for i := range n {
		for j := i; j < n; j++ {
			call(marks(n, i, j))
		}
	}
	call(marks(n))
}

// P4.3: of a stripe's own chunks all are as they were.
func TestDecode(t *testing.T) {
	for k := 1; k <= api.MaxData; k++ {
		for _, length := range []int{0, 1, 2, 5, 32} {
			all := whole(someTexts(k, length, k))
			forEachLoss(k+2, func(there []bool) {
				for _, l := range [][]string{all, withNoise(all, there)} {
					if got, e := Decode(l, there); !slices.Equal(got, all) || e != api.OK {
						t.Errorf("P4.3: %d data chunks of %d bytes, %v: %q, %v, want %q", k, length, there, got, e, all)
					}
				}
			})
		}
	}
}

// checkStripe holds what Decode answered against P4.3: it is a stripe, of which the first k chunks of those there are the ones that they are. There is one such stripe alone.
func checkStripe(t *testing.T, chunks []string, there []bool) {
	t.Helper()
	got, e := Decode(chunks, there)
	k := len(chunks) - 2
	if e != api.OK || len(got) != k+2 {
		t.Fatalf("P4.3: %q, %v: %q, %v", chunks, there, got, e)
	}
	if !slices.Equal(got, whole(got[:k])) {
		t.Errorf("P4.3: %q, %v: %q aren't a stripe's", chunks, there, got)
	}
	left := k
	for i := range chunks {
		if there[i] && left > 0 {
			left--
			if got[i] != chunks[i] {
				t.Errorf("P4.3: %q, %v: chunk %d is %q", chunks, there, i, got[i])
			}
		}
	}
}

// P4.3: of chunks that are no stripe's.
func TestDecodeOfAnyTexts(t *testing.T) {
	for k := 1; k <= api.MaxData; k++ {
		for seed := range 3 {
			chunks := someTexts(k+2, 3, seed+7)
			forEachLoss(k+2, func(there []bool) { checkStripe(t, withNoise(chunks, there), there) })
			all := whole(someTexts(k, 3, seed))
			for at := range all {
				forEachLoss(k+2, func(there []bool) { checkStripe(t, otherByte(all, at, seed), there) })
			}
		}
	}
	if got, e := Decode([]string{"a", "b", "c", "d"}, marks(4)); !slices.Equal(got, []string{"a", "b", "\x03", "\xa5"}) || e != api.OK {
		t.Errorf("P4.3: parity that doesn't fit: %q, %v", got, e)
	}
	if got, e := Decode([]string{"\x01", "", "\x00", "\x77"}, marks(4, 1)); !slices.Equal(got, []string{"\x01", "\x01", "\x00", "\x03"}) || e != api.OK {
		t.Errorf("P4.3: a Q that doesn't fit, where P tells: %q, %v", got, e)
	}
}

// P4.3
func TestDecodeOfLongTexts(t *testing.T) {
	for _, length := range []int{api.MaxText - 1, api.MaxText} {
		for _, k := range []int{1, 2, api.MaxData} {
			all := whole(someTexts(k, length, k))
			for _, there := range [][]bool{marks(k + 2), marks(k+2, 0), marks(k+2, 0, k-1), marks(k+2, k-1, k), marks(k+2, 0, k+1), marks(k+2, k, k+1)} {
				if got, e := Decode(withNoise(all, there), there); !slices.Equal(got, all) || e != api.OK {
					t.Errorf("P4.3: %d data chunks of %d bytes, %v: %v", k, length, there, e)
				}
			}
		}
	}
}

func refusedDecode(t *testing.T, chunks []string, there []bool, want api.Errno) {
	t.Helper()
	if got, e := Decode(chunks, there); len(got) != 0 || e != want {
		t.Errorf("P4.3: Decode of %d chunks, %v: %d chunks, %v, want %v", len(chunks), there, len(got), e, want)
	}
}

// P4.3: ErrArg is named first: it is answered whatever the marks and the lengths are.
func TestDecodeOfWrongNumbers(t *testing.T) {
	long := strings.Repeat("x", api.MaxText+1)
	for _, n := range append(wrongCounts(), -1, -2) {
		for _, l := range [][]string{slices.Repeat([]string{"a"}, n+2), slices.Repeat([]string{long}, n+2), slices.Repeat([]string{"a", long}, n/2+1)} {
			if n%2 != 0 && len(l) != n+2 {
				continue
			}
			refusedDecode(t, l, marks(len(l)), api.ErrArg)
			refusedDecode(t, l, make([]bool, len(l)), api.ErrArg)
			refusedDecode(t, l, nil, api.ErrArg)
			refusedDecode(t, l, marks(4), api.ErrArg)
		}
	}
	refusedDecode(t, nil, nil, api.ErrArg)
	refusedDecode(t, []string{"a", "b", "c"}[:0], marks(3)[:0], api.ErrArg)
	refusedDecode(t, []string{"a", "b", "c"}[:2], marks(3)[:2], api.ErrArg)
	for n := 3; n <= api.MaxData+2; n++ {
		for _, l := range [][]string{whole(someTexts(n-2, 2, 1)), someTexts(n, 2, 2), append(someTexts(n-1, 2, 3), long), slices.Repeat([]string{long}, n)} {
			for m := range api.MaxData + 5 {
				if m != n {
					refusedDecode(t, l, marks(m), api.ErrArg)
					refusedDecode(t, l, make([]bool, m), api.ErrArg)
				}
			}
			refusedDecode(t, l, marks(n)[:n-1], api.ErrArg)
		}
	}
}

// P4.3: ErrLost, whichever three aren't there, ahead of ErrShape and ErrLong.
func TestDecodeOfLost(t *testing.T) {
	long := strings.Repeat("x", api.MaxText+1)
	for n := 3; n <= api.MaxData+2; n++ {
		lists := [][]string{whole(someTexts(n-2, 4, n)), slices.Repeat([]string{""}, n), slices.Repeat([]string{long}, n), slices.Repeat([]string{"a", "bc"}, n)[:n]}
		for _, l := range lists {
			for i := range n {
				for j := range i {
					for h := range j {
						refusedDecode(t, l, marks(n, h, i, j), api.ErrLost)
					}
				}
			}
			refusedDecode(t, l, make([]bool, n), api.ErrLost)
			few := make([]bool, n)
			few[n/2] = true
			if n > 3 {
				refusedDecode(t, l, few, api.ErrLost)
			}
		}
	}
}

// P4.3: each text that is there counts for ErrShape, also behind the first k; none that isn't.
func TestDecodeOfUnlikeTexts(t *testing.T) {
	long := strings.Repeat("x", api.MaxText+1)
	for n := 3; n <= api.MaxData+2; n++ {
		for at := range n {
			for _, other := range []string{"", "a", "abc", long} {
				l := whole(someTexts(n-2, 2, n))
				want := slices.Clone(l)
				l[at] = other
				forEachLoss(n, func(there []bool) {
					left := 0
					for _, is := range there {
						if is {
							left++
						}
					}
					if there[at] && left > 1 {
						refusedDecode(t, l, there, api.ErrShape)
					}
					if got, e := Decode(l, there); !there[at] && (!slices.Equal(got, want) || e != api.OK) {
						t.Errorf("P4.3: %d chunks, %d is another and isn't there: %q, %v", n, at, got, e)
					}
				})
			}
			l := slices.Repeat([]string{long}, n)
			l[at] = long + "x"
			refusedDecode(t, l, marks(n), api.ErrShape)
			l[at] = long[1:]
			refusedDecode(t, l, marks(n), api.ErrShape)
		}
	}
}

// P4.3
func TestDecodeOfTooLong(t *testing.T) {
	long := strings.Repeat("x", api.MaxText+1)
	for n := 3; n <= api.MaxData+2; n++ {
		l := slices.Repeat([]string{long}, n)
		forEachLoss(n, func(there []bool) {
			refusedDecode(t, l, there, api.ErrLong)
			short := slices.Clone(l)
			for i := range short {
				if !there[i] {
					short[i] = "a"
				}
			}
			refusedDecode(t, short, there, api.ErrLong)
		})
	}
	refusedDecode(t, slices.Repeat([]string{strings.Repeat("x", 1<<20)}, 3), marks(3), api.ErrLong)
	// The one chunk that is there tells all, and is too long.
	refusedDecode(t, []string{"", long, ""}, []bool{false, true, false}, api.ErrLong)
}

// P4.3: of a stripe of one data chunk, each chunk alone tells the others.
func TestDecodeOfOne(t *testing.T) {
	for at := range 3 {
		l, there := make([]string, 3), make([]bool, 3)
		l[at], there[at] = "a\x80", true
		if got, e := Decode(l, there); !slices.Equal(got, []string{"a\x80", "a\x80", "a\x80"}) || e != api.OK {
			t.Errorf("P4.3: of chunk %d alone: %q, %v", at, got, e)
		}
	}
}

// P4.4
func TestCheck(t *testing.T) {
	for k := 1; k <= api.MaxData; k++ {
		for _, length := range []int{0, 1, 2, 5, 32} {
			all := whole(someTexts(k, length, k))
			if !Check(all) || !Check(append(all, "behind")[:k+2]) {
				t.Errorf("P4.4: %q: false", all)
			}
			for text := range all {
				for at := range length {
					if l := otherByte(all, text, at); Check(l) {
						t.Errorf("P4.4: %q: true", l)
					}
				}
				l := slices.Clone(all)
				l[text] += "\x00"
				if Check(l) {
					t.Errorf("P4.4: %q: true", l)
				}
				if length > 0 {
					l[text] = all[text][1:]
					if Check(l) {
						t.Errorf("P4.4: %q: true", l)
					}
				}
			}
		}
	}
	for _, l := range [][]string{{"\x01", "\x01", "\x00", "\x03"}, {"a", "a", "a"}, {"", "", ""}, {"\x00", "\x00", "\x00", "\x00"}} {
		if !Check(l) {
			t.Errorf("P4.4: %q: false", l)
		}
	}
	for _, l := range [][]string{{"\x01", "\x01", "\x03", "\x00"}, {"a", "a", "b"}, {"a", "b", "a"}, {"b", "a", "a"}, {"", "", "\x00"}, {"", "\x00", ""}, {"\x00", "", ""}, {"\x01", "\x01", "\x00", "\x00"}, {"\x01", "\x01", "\x03", "\x03"}, {"a", "bc", "", ""}, {"", "a", "", ""}, {strings.Repeat("x", api.MaxText+1), "", ""}} {
		if Check(l) {
			t.Errorf("P4.4: %q: true", l)
		}
	}
}

// P4.4: numbers of chunks that no stripe has, and lengths.
func TestCheckOfWrongNumbers(t *testing.T) {
	for _, n := range append(wrongCounts(), -1, -2) {
		for _, s := range []string{"", "\x00", "\x00\x00"} {
			if Check(slices.Repeat([]string{s}, n+2)) {
				t.Errorf("P4.4: %d empty chunks: true", n+2)
			}
		}
	}
	if data := someTexts(api.MaxData+1, 3, 4); Check(whole(data)) {
		t.Error("P4.4: a stripe of too many chunks: true")
	}
	if Check(nil) || Check([]string{"a", "a", "a"}[:2]) || Check([]string{"a", "a", "a"}[:0]) {
		t.Error("P4.4: what lies behind the length counts")
	}
	for k := 1; k <= api.MaxData; k++ {
		if all := whole(someTexts(k, api.MaxText, 5)); !Check(all) || Check(otherByte(all, k, api.MaxText-1)) || Check(otherByte(all, k+1, 0)) || Check(otherByte(all, k-1, 77)) {
			t.Errorf("P4.4: %d texts of MaxText bytes", k)
		}
		if Check(whole(someTexts(k, api.MaxText+1, 6))) {
			t.Errorf("P4.4: %d texts of more than MaxText bytes: true", k)
		}
	}
}

// The calls of a layer fit one another: what Encode and Update make passes Check, and so does what Decode tells.
func TestTogether(t *testing.T) {
	for k := 1; k <= api.MaxData; k++ {
		data := someTexts(k, 16, k)
		p, q, _ := Encode(data)
		for i := range data {
			now := someText(16, 300+i)
			p, q, _ = Update(p, q, i, data[i], now)
			data[i] = now
			all := append(slices.Clone(data), p, q)
			if !Check(all) {
				t.Errorf("P4.2, P4.4: chunk %d of %d was changed: false", i, k)
			}
			forEachLoss(k+2, func(there []bool) {
				if got, _ := Decode(all, there); !Check(got) || !slices.Equal(got, all) {
					t.Errorf("P4.3, P4.4: %d data chunks, %v: %q", k, there, got)
				}
			})
		}
	}
}

// Rule 4 of the document: what is handed in is left as it was, also behind its length, by calls that answer and by calls that are refused.
func TestMemory(t *testing.T) {
	long := strings.Repeat("x", api.MaxText+1)
	for n := 3; n <= api.MaxData+2; n++ {
		for _, plain := range [][]string{whole(someTexts(n-2, 4, n)), someTexts(n, 4, n), append(someTexts(n-1, 4, n), "unlike"), slices.Repeat([]string{long}, n)} {
			laid := append(slices.Clone(plain), "behind", "further")
			chunks := laid[:n]
			kept := slices.Clone(laid)
			check := func(call string) {
				t.Helper()
				if !slices.Equal(laid, kept) {
					t.Fatalf("rule 4: %s changed the chunks that were handed in", call)
				}
			}
			Encode(chunks[:n-2])
			check("Encode")
			Check(chunks)
			check("Check")
			for missing := range 4 {
				there := append(marks(n), false, true)
				for i := range min(missing, n) {
					there[i] = false
				}
				before := slices.Clone(there)
				got, _ := Decode(chunks, there[:n])
				for i := range got {
					got[i] = "mine"
				}
				_ = append(got, "mine", "mine")
				check("Decode")
				if !slices.Equal(there, before) {
					t.Fatal("rule 4: Decode changed the marks that were handed in")
				}
			}
		}
	}
}

// Rule 4 and rule 7: the answers of two calls are alike, share no memory, and have nothing behind their length.
func TestAnswersAreApart(t *testing.T) {
	for k := 1; k <= api.MaxData; k++ {
		all := whole(someTexts(k, 4, k))
		for _, there := range [][]bool{marks(k + 2), marks(k+2, 0), marks(k+2, 0, k), marks(k+2, k, k+1)} {
			first, _ := Decode(all, there)
			second, _ := Decode(all, there)
			for _, s := range first[len(first):cap(first)] {
				if s != "" {
					t.Errorf("rule 4: %d data chunks: something lies behind the answer", k)
				}
			}
			clear(first)
			third, _ := Decode(all, there)
			if !slices.Equal(second, all) || !slices.Equal(third, all) {
				t.Errorf("rule 4: %d data chunks, %v: two answers share memory", k, there)
			}
		}
	}
}

// Ways, layer 4: in Check the parity chunks are compared as arrays.
func TestWays(t *testing.T) {
	file, err := parser.ParseFile(token.NewFileSet(), "rs.go", nil, 0)
	if err != nil {
		t.Fatal(err)
	}
	compared := false
	for _, d := range file.Decls {
		f, ok := d.(*ast.FuncDecl)
		if !ok || f.Name.Name != "Check" {
			continue
		}
		ast.Inspect(f, func(n ast.Node) bool {
			x, ok := n.(*ast.BinaryExpr)
			compared = compared || ok && x.Op == token.EQL && isArray(x.X) && isArray(x.Y)
			return true
		})
	}
	if !compared {
		t.Error("Ways: Check compares no arrays")
	}
}

// isArray: is it an array, written out?
func isArray(x ast.Expr) bool {
	l, ok := x.(*ast.CompositeLit)
	if !ok {
		return false
	}
	a, ok := l.Type.(*ast.ArrayType)
	return ok && a.Len != nil
}
