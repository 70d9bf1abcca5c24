package crc

import (
	"math"
	"strings"
	"testing"
	"unsafe"

	"belfry/api"
)

// sums are texts and their sums, worked out by another program; 123456789 is the chapter's example.
var sums = []struct {
	s    string
	want int
}{
	{"", 0xffff},
	{"A", 0xb915},
	{"a", 0x9d77},
	{"123456789", 0x29b1},
	{"bell", 0xa38c},
	{"bill", 0xd6ed},
	{"belfry", 0x5e6d},
	{"\x00", 0xe1f0},
	{"\x00\x00", 0x1d0f},
	{"\x80", 0x7078},
	{"\x01", 0xf1d1},
	{"\xff", 0xff00},
	{"\xff\xff", 0x0000},
	{"\xff\xff\x00\x00", 0x0000},
	{"\xc3", 0x08df},
	{"\xc3(", 0xfb62},
	{"\xff\xfe\x80", 0xa2b9},
	{"\xed\xa0\x80", 0xa20a},
	{"Gl\xc3\xb6ckchen", 0xbf31},
	{"a\x00b\x0a", 0x67a4},
	{"ab", 0x69f0},
	{"ba", 0x0cc0},
	{"The quick brown fox jumps over the lazy dog", 0x8fdd},
	{"\xe2\x99\xaa", 0xb41e},
	{"\x1d\x0f", 0x99cf},
	{"\x00\x01\x02\x03\x04\x05\x06\x07\x08\x09", 0xc241},
	{"\xf0\xf1\xf2\xf3\xf4\xf5\xf6\xf7\xf8\xf9\xfa\xfb\xfc\xfd\xfe\xff", 0xfb6b},
}

// singles are the sums of each byte alone, worked out by another program.
var singles = [256]int{
	0xe1f0, 0xf1d1, 0xc1b2, 0xd193, 0xa174, 0xb155, 0x8136, 0x9117,
	0x60f8, 0x70d9, 0x40ba, 0x509b, 0x207c, 0x305d, 0x003e, 0x101f,
	0xf3c1, 0xe3e0, 0xd383, 0xc3a2, 0xb345, 0xa364, 0x9307, 0x8326,
	0x72c9, 0x62e8, 0x528b, 0x42aa, 0x324d, 0x226c, 0x120f, 0x022e,
	0xc592, 0xd5b3, 0xe5d0, 0xf5f1, 0x8516, 0x9537, 0xa554, 0xb575,
	0x449a, 0x54bb, 0x64d8, 0x74f9, 0x041e, 0x143f, 0x245c, 0x347d,
	0xd7a3, 0xc782, 0xf7e1, 0xe7c0, 0x9727, 0x8706, 0xb765, 0xa744,
	0x56ab, 0x468a, 0x76e9, 0x66c8, 0x162f, 0x060e, 0x366d, 0x264c,
	0xa934, 0xb915, 0x8976, 0x9957, 0xe9b0, 0xf991, 0xc9f2, 0xd9d3,
	0x283c, 0x381d, 0x087e, 0x185f, 0x68b8, 0x7899, 0x48fa, 0x58db,
	0xbb05, 0xab24, 0x9b47, 0x8b66, 0xfb81, 0xeba0, 0xdbc3, 0xcbe2,
	0x3a0d, 0x2a2c, 0x1a4f, 0x0a6e, 0x7a89, 0x6aa8, 0x5acb, 0x4aea,
	0x8d56, 0x9d77, 0xad14, 0xbd35, 0xcdd2, 0xddf3, 0xed90, 0xfdb1,
	0x0c5e, 0x1c7f, 0x2c1c, 0x3c3d, 0x4cda, 0x5cfb, 0x6c98, 0x7cb9,
	0x9f67, 0x8f46, 0xbf25, 0xaf04, 0xdfe3, 0xcfc2, 0xffa1, 0xef80,
	0x1e6f, 0x0e4e, 0x3e2d, 0x2e0c, 0x5eeb, 0x4eca, 0x7ea9, 0x6e88,
	0x7078, 0x6059, 0x503a, 0x401b, 0x30fc, 0x20dd, 0x10be, 0x009f,
	0xf170, 0xe151, 0xd132, 0xc113, 0xb1f4, 0xa1d5, 0x91b6, 0x8197,
	0x6249, 0x7268, 0x420b, 0x522a, 0x22cd, 0x32ec, 0x028f, 0x12ae,
	0xe341, 0xf360, 0xc303, 0xd322, 0xa3c5, 0xb3e4, 0x8387, 0x93a6,
	0x541a, 0x443b, 0x7458, 0x6479, 0x149e, 0x04bf, 0x34dc, 0x24fd,
	0xd512, 0xc533, 0xf550, 0xe571, 0x9596, 0x85b7, 0xb5d4, 0xa5f5,
	0x462b, 0x560a, 0x6669, 0x7648, 0x06af, 0x168e, 0x26ed, 0x36cc,
	0xc723, 0xd702, 0xe761, 0xf740, 0x87a7, 0x9786, 0xa7e5, 0xb7c4,
	0x38bc, 0x289d, 0x18fe, 0x08df, 0x7838, 0x6819, 0x587a, 0x485b,
	0xb9b4, 0xa995, 0x99f6, 0x89d7, 0xf930, 0xe911, 0xd972, 0xc953,
	0x2a8d, 0x3aac, 0x0acf, 0x1aee, 0x6a09, 0x7a28, 0x4a4b, 0x5a6a,
	0xab85, 0xbba4, 0x8bc7, 0x9be6, 0xeb01, 0xfb20, 0xcb43, 0xdb62,
	0x1cde, 0x0cff, 0x3c9c, 0x2cbd, 0x5c5a, 0x4c7b, 0x7c18, 0x6c39,
	0x9dd6, 0x8df7, 0xbd94, 0xadb5, 0xdd52, 0xcd73, 0xfd10, 0xed31,
	0x0eef, 0x1ece, 0x2ead, 0x3e8c, 0x4e6b, 0x5e4a, 0x6e29, 0x7e08,
	0x8fe7, 0x9fc6, 0xafa5, 0xbf84, 0xcf63, 0xdf42, 0xef21, 0xff00,
}

// mores are what other sums are behind texts, worked out by another program.
var mores = []struct {
	r    int
	s    string
	want int
}{
	{0x0000, "\x00", 0x0000},
	{0x0000, "A", 0x58e5},
	{0x0000, "\xff", 0x1ef0},
	{0x0000, "123456789", 0x31c3},
	{0x0000, "bell", 0x274c},
	{0x0001, "\x00", 0x0100},
	{0x0001, "A", 0x59e5},
	{0x0001, "\xff", 0x1ff0},
	{0x0001, "123456789", 0x7610},
	{0x0001, "bell", 0x107c},
	{0x1021, "\x00", 0x3331},
	{0x1021, "A", 0x6bd4},
	{0x1021, "\xff", 0x2dc1},
	{0x1021, "123456789", 0x5e86},
	{0x1021, "bell", 0x8d1d},
	{0x8000, "\x00", 0x9188},
	{0x8000, "A", 0xc96d},
	{0x8000, "\xff", 0x8f78},
	{0x8000, "123456789", 0x8e71},
	{0x8000, "bell", 0xfa74},
	{0x7fff, "\x00", 0x7078},
	{0x7fff, "A", 0x289d},
	{0x7fff, "\xff", 0x6e88},
	{0x7fff, "123456789", 0x9603},
	{0x7fff, "bell", 0x7eb4},
	{0xffff, "\x00", 0xe1f0},
	{0xffff, "A", 0xb915},
	{0xffff, "\xff", 0xff00},
	{0xffff, "123456789", 0x29b1},
	{0xffff, "bell", 0xa38c},
	{0xfffe, "\x00", 0xe0f0},
	{0xfffe, "A", 0xb815},
	{0xfffe, "\xff", 0xfe00},
	{0xfffe, "123456789", 0x6e62},
	{0xfffe, "bell", 0x94bc},
	{0x29b1, "\x00", 0x044b},
	{0x29b1, "A", 0x5cae},
	{0x29b1, "\xff", 0x1abb},
	{0x29b1, "123456789", 0xa86d},
	{0x29b1, "bell", 0x2aba},
	{0x3039, "\x00", 0x0f53},
	{0x3039, "A", 0x57b6},
	{0x3039, "\xff", 0x11a3},
	{0x3039, "123456789", 0xda14},
	{0x3039, "bell", 0x5091},
}

// numbers answers a source of words that is the same in each run.
func numbers(seed uint64) func() uint64 {
	return func() uint64 {
		seed += 0x9e3779b97f4a7c15
		z := (seed ^ seed>>30) * 0xbf58476d1ce4e5b9
		z = (z ^ z>>27) * 0x94d049bb133111eb
		return z ^ z>>31
	}
}

// anyText answers a text of so many bytes.
func anyText(next func() uint64, size int) string {
	l := make([]byte, size)
	for i := range l {
		l[i] = byte(next())
	}
	return string(l)
}

// texts answers those of the tables and some more, of all sizes up to those of packets, and greater ones.
func texts() []string {
	var l []string
	for _, x := range sums {
		l = append(l, x.s)
	}
	next := numbers(1)
	for size := range 26 {
		l = append(l, anyText(next, size), strings.Repeat("\x00", size), strings.Repeat("\xff", size))
	}
	return append(l, anyText(next, 300), anyText(next, 1000))
}

// restByHand answers a number's rest by 65536, from 0 on.
func restByHand(r int) int {
	r %= 65536
	if r < 0 {
		r += 65536
	}
	return r
}

// moreByHand answers the sum behind a text by the chapter's words, with numbers alone: crc.go shifts bits.
func moreByHand(r int, s string) int {
	r = restByHand(r)
	for i := 0; i < len(s); i++ {
		for _, worth := range []int{128, 64, 32, 16, 8, 4, 2, 1} {
			highest, bit := r/32768, int(s[i])/worth%2
			r = r * 2 % 65536
			if highest != bit {
				r ^= 4129
			}
		}
	}
	return r
}

// sealedByHand answers a text with its sum behind it, the higher byte first.
func sealedByHand(s string) string {
	x := moreByHand(65535, s)
	return s + string([]byte{byte(x / 256), byte(x % 256)})
}

// mustSum fails unless the text's sum is that.
func mustSum(t *testing.T, s string, want int) {
	t.Helper()
	if x := Sum(s); x != want {
		t.Fatalf("Sum(%q) = %#x, want %#x", s, x, want)
	}
}

// mustMore fails unless the sum behind a text is that.
func mustMore(t *testing.T, r int, s string, want int) {
	t.Helper()
	if x := More(r, s); x != want {
		t.Fatalf("More(%d, %q) = %#x, want %#x", r, s, x, want)
	}
}

// mustOpen fails unless that was sealed.
func mustOpen(t *testing.T, s, want string) {
	t.Helper()
	if x, e := Open(s); x != want || e != api.OK {
		t.Fatalf("Open(%q) = %q, %d, want %q, OK", s, x, e, want)
	}
}

// mustRefuse fails unless Open answers the error, and nothing beside it.
func mustRefuse(t *testing.T, s string, want api.Errno) {
	t.Helper()
	if x, e := Open(s); x != "" || e != want {
		t.Fatalf("Open(%q) = %q, %d, want none, %d", s, x, e, want)
	}
}

// changed answers a text some of whose bits from a place on are changed: by the bits of a pattern, its lowest one first.
func changed(s string, from int, pattern uint32) string {
	l := []byte(s)
	for at := from; pattern != 0; at, pattern = at+1, pattern>>1 {
		if pattern&1 == 1 {
			l[at/8] ^= 128 >> (at % 8)
		}
	}
	return string(l)
}

// 15.1: sums of another program, the chapter's example, no bytes and bytes that are no text among them.
func TestSum(t *testing.T) {
	for _, x := range sums {
		mustSum(t, x.s, x.want)
	}
}

// 15.1: the sum of one byte, of each value.
func TestSumOfOneByte(t *testing.T) {
	for b, want := range singles {
		mustSum(t, string([]byte{byte(b)}), want)
	}
}

// 15.1: sums of bytes all 0, all 255, of those that go round, and of squares' rests by 251, up to some thousand, of another program.
func TestSumOfMany(t *testing.T) {
	rules := []func(i int) int{
		func(i int) int { return 0 },
		func(i int) int { return 255 },
		func(i int) int { return i % 256 },
		func(i int) int { return i * i % 251 },
	}
	for _, x := range []struct {
		size int
		want [4]int
	}{
		{2, [4]int{0x1d0f, 0x0000, 0x0d2e, 0x0d2e}},
		{3, [4]int{0xcc9c, 0x1ef0, 0xdfef, 0xbf29}},
		{16, [4]int{0x6a0a, 0x6a4b, 0x3b37, 0x7eb1}},
		{22, [4]int{0x9fb4, 0xb352, 0x5244, 0x7bea}},
		{255, [4]int{0xe6dc, 0x3cb2, 0xe3ec, 0xdd9f}},
		{256, [4]int{0x41e8, 0x5b2f, 0x3fbd, 0x97e1}},
		{257, [4]int{0xb0e5, 0xda6e, 0x7abc, 0x9146}},
		{4096, [4]int{0xefdf, 0x0fe1, 0x0f69, 0xbb49}},
		{8192, [4]int{0xcf9f, 0xfffc, 0xfe64, 0x0001}},
	} {
		for i, rule := range rules {
			l := make([]byte, x.size)
			for at := range l {
				l[at] = byte(rule(at))
			}
			mustSum(t, string(l), x.want[i])
		}
	}
}

// 15.1: sums by the chapter's words, done bit by bit.
func TestSumByHand(t *testing.T) {
	for _, s := range texts() {
		mustSum(t, s, moreByHand(65535, s))
	}
	next := numbers(2)
	for range 300 {
		s := anyText(next, int(next()%200))
		mustSum(t, s, moreByHand(65535, s))
	}
	for _, size := range []int{4095, 4096, 5000, 8193} {
		s := anyText(next, size)
		mustSum(t, s, moreByHand(65535, s))
	}
}

// 15.1: sums from other beginnings, of another program.
func TestMore(t *testing.T) {
	for _, x := range mores {
		mustMore(t, x.r, x.s, x.want)
		for _, round := range []int{65536, -65536, 1 << 32, -1 << 32, 1 << 62, -1 << 62} {
			mustMore(t, x.r+round, x.s, x.want)
		}
	}
}

// 15.1: More of no bytes is r's rest from 0 on, about the edges, and at the ends of int.
func TestMoreOfNothing(t *testing.T) {
	for r, want := range map[int]int{
		0: 0, 1: 1, 4129: 4129, 32767: 32767, 32768: 32768, 65534: 65534, 65535: 65535,
		65536: 0, 65537: 1, 131071: 65535, 131072: 0, 1 << 32: 0, 1<<32 + 7: 7,
		-1: 65535, -2: 65534, -32768: 32768, -65535: 1, -65536: 0, -65537: 65535, -1<<32 - 1: 65535,
		math.MaxInt: 65535, math.MaxInt - 1: 65534, math.MinInt: 0, math.MinInt + 1: 1,
	} {
		mustMore(t, r, "", want)
	}
	for r := range 65536 {
		mustMore(t, r, "", r)
		mustMore(t, r-65536, "", r)
	}
}

// 15.1: More of any r is what the chapter's words make of its rest: each sum that there is behind one byte, and others behind longer texts.
func TestMoreByHand(t *testing.T) {
	for r := range 65536 {
		s := string([]byte{byte(r * 37)})
		mustMore(t, r, s, moreByHand(r, s))
	}
	next := numbers(3)
	for _, s := range texts() {
		for _, r := range []int{0, 65535, 65536, -1, -65536, math.MinInt, math.MaxInt, int(next())} {
			mustMore(t, r, s, moreByHand(r, s))
		}
	}
}

// 15.1: Sum is More from 65535 on, and so from -1.
func TestSumIsMore(t *testing.T) {
	for _, s := range texts() {
		mustMore(t, 65535, s, Sum(s))
		mustMore(t, -1, s, Sum(s))
	}
}

// 15.1: what is sealed has the bytes themselves, the sum's higher byte, and its lower one.
func TestSeal(t *testing.T) {
	for s, want := range map[string]string{
		"":          "\xff\xff",
		"A":         "A\xb9\x15",
		"123456789": "123456789\x29\xb1",
		"bell":      "bell\xa3\x8c",
		"\x00":      "\x00\xe1\xf0",
		"\x00\x00":  "\x00\x00\x1d\x0f",
		"\xff":      "\xff\xff\x00",
		"\xff\xff":  "\xff\xff\x00\x00",
		"\x15":      "\x15\xa3\x64",
		"\x12":      "\x12\xd3\x83",
		"\x1f":      "\x1f\x02\x2e", // a higher byte that stays, though it is small
		"\xc3":      "\xc3\x08\xdf",
	} {
		if x := Seal(s); x != want {
			t.Errorf("Seal(%q) = %q, want %q", s, x, want)
		}
	}
	for _, s := range texts() {
		if x, want := Seal(s), sealedByHand(s); x != want {
			t.Errorf("Seal(%q) = %q, want %q", s, x, want)
		}
	}
}

// 15.1: ErrShort of no bytes and of one, of each value.
func TestOpenShort(t *testing.T) {
	mustRefuse(t, "", api.ErrShort)
	for b := range 256 {
		mustRefuse(t, string([]byte{byte(b)}), api.ErrShort)
	}
}

// 15.1: of all that has two bytes the sum of nothing alone is opened, as nothing.
func TestOpenTwoBytes(t *testing.T) {
	for x := range 65536 {
		s := string([]byte{byte(x / 256), byte(x % 256)})
		if x == 65535 {
			mustOpen(t, s, "")
		} else {
			mustRefuse(t, s, api.ErrSum)
		}
	}
}

// 15.1: of all that may stand behind a text its sum alone is taken.
func TestOpenOneSumAlone(t *testing.T) {
	for _, s := range []string{"bell", "\xff\xff", "\x00"} {
		for x := range 65536 {
			sealed := s + string([]byte{byte(x / 256), byte(x % 256)})
			if sealed == sealedByHand(s) {
				mustOpen(t, sealed, s)
			} else {
				mustRefuse(t, sealed, api.ErrSum)
			}
		}
	}
}

// 15.1: ErrSum where the sum's bytes are changed about, but where they are alike.
func TestOpenChangedAbout(t *testing.T) {
	mustRefuse(t, "123456789\xb1\x29", api.ErrSum)
	mustRefuse(t, "bell\x8c\xa3", api.ErrSum)
	for _, s := range texts() {
		sum := sealedByHand(s)[len(s):]
		about := s + string([]byte{sum[1], sum[0]})
		if sum[0] == sum[1] {
			mustOpen(t, about, s)
		} else {
			mustRefuse(t, about, api.ErrSum)
		}
	}
}

// 15.1: what has a byte less at its end isn't opened, but where its last byte was 0: then the others are sealed, by the chapter's words.
func TestOpenByteLess(t *testing.T) {
	mustRefuse(t, "\xff", api.ErrShort)
	mustRefuse(t, "123456789\x29", api.ErrSum)
	mustRefuse(t, "23456789\x29\xb1", api.ErrSum)
	mustRefuse(t, "12346789\x29\xb1", api.ErrSum)
	mustOpen(t, "\xff\xff", "") // of "\xff" it was sealed, less its last byte
	for _, s := range texts() {
		sealed := sealedByHand(s)
		less := sealed[:len(sealed)-1]
		switch {
		case s == "":
			mustRefuse(t, less, api.ErrShort)
		case sealed[len(less)] == 0:
			mustOpen(t, less, less[:len(less)-2])
		default:
			mustRefuse(t, less, api.ErrSum)
		}
	}
}

// 15.1: what has a byte more at its end isn't opened, but where that is 0: then its other bytes' sum is right, by the chapter's words.
func TestOpenByteMore(t *testing.T) {
	mustRefuse(t, "0123456789\x29\xb1", api.ErrSum)
	mustRefuse(t, "123456789\x00\x29\xb1", api.ErrSum)
	mustRefuse(t, "123456789\x29\xb1\n", api.ErrSum)
	for _, s := range texts() {
		sealed := sealedByHand(s)
		for b := range 256 {
			more := sealed + string([]byte{byte(b)})
			if b == 0 {
				mustOpen(t, more, more[:len(more)-2])
			} else {
				mustRefuse(t, more, api.ErrSum)
			}
		}
	}
}

// 15.1: Open tells of any bytes what the chapter's words do.
func TestOpenByHand(t *testing.T) {
	next := numbers(4)
	for i := range 2000 {
		s := anyText(next, 2+int(next()%20))
		if i%4 == 0 {
			s = sealedByHand(s)
		}
		if body := s[:len(s)-2]; sealedByHand(body) == s {
			mustOpen(t, s, body)
		} else {
			mustRefuse(t, s, api.ErrSum)
		}
	}
}

// 15.2: the sum of two texts, one behind the other, is More's of the first one's, wherever a text is parted; so it is from any r on.
func TestPartsAreOne(t *testing.T) {
	next := numbers(5)
	for _, s := range texts() {
		r := int(next())
		from := More(r, s)
		for at := range len(s) + 1 {
			mustMore(t, Sum(s[:at]), s[at:], Sum(s))
			mustMore(t, More(r, s[:at]), s[at:], from)
		}
	}
}

// 15.2: so is the sum of many parts, byte by byte.
func TestByteByByte(t *testing.T) {
	s := anyText(numbers(6), 5000)
	r := Sum("")
	for i := range len(s) {
		r = More(r, s[i:i+1])
	}
	mustSum(t, s, r)
}

// 15.2: what is sealed is opened, once, and sealed twice, too.
func TestSealedIsOpened(t *testing.T) {
	next := numbers(7)
	for _, s := range append(texts(), anyText(next, 8192)) {
		mustOpen(t, Seal(s), s)
		mustOpen(t, Seal(Seal(s)), Seal(s))
	}
	for range 1000 {
		s := anyText(next, int(next()%64))
		mustOpen(t, Seal(s), s)
	}
}

// 15.2: short texts with bits changed within 16 that stand one behind the other aren't opened: from each bit on, all changes there are.
func TestAllChangesOfShort(t *testing.T) {
	for _, s := range []string{"", "\x00", "A", "\xff\xff", "bel"} {
		sealed := Seal(s)
		bits := 8 * len(sealed)
		for from := range bits {
			wide := min(16, bits-from)
			for pattern := uint32(1); pattern < 1<<wide; pattern += 2 {
				mustRefuse(t, changed(sealed, from, pattern), api.ErrSum)
			}
		}
	}
}

// 15.2: nor are longer ones: all changes at the beginning, across the seam to the sum, and in the sum itself.
func TestChangesAtEdges(t *testing.T) {
	for _, s := range []string{"123456789", anyText(numbers(8), 20)} {
		sealed := Seal(s)
		seam := 8 * len(s)
		for _, from := range []int{0, 1, 7, 8, seam - 16, seam - 15, seam - 9, seam - 8, seam - 1, seam} {
			for pattern := uint32(1); pattern < 1<<16; pattern++ {
				mustRefuse(t, changed(sealed, from, pattern), api.ErrSum)
			}
		}
	}
}

// 15.2: nor are long ones, anywhere, changed in one bit, in all of 16, or in some of them.
func TestChangesOfLong(t *testing.T) {
	next := numbers(9)
	for _, size := range []int{10, 12, 22, 24, 300} {
		sealed := Seal(anyText(next, size))
		for from := range 8*len(sealed) - 15 {
			for range 20 {
				mustRefuse(t, changed(sealed, from, 1|uint32(next()%65536)), api.ErrSum)
			}
			for at := range 16 {
				mustRefuse(t, changed(sealed, from, 1<<at), api.ErrSum)
			}
			mustRefuse(t, changed(sealed, from, 65535), api.ErrSum)
		}
	}
}

// 15.1 and 15.2: within 17 bits one change alone isn't told, that by the number that the sum hangs on: no more is promised, and nothing else is asked.
func TestChangeBeyond(t *testing.T) {
	const untold = 1 | 1<<4 | 1<<11 | 1<<16 // x^16, x^12, x^5 and 1, the highest first
	for _, s := range []string{"A", "bell", anyText(numbers(10), 22)} {
		sealed := Seal(s)
		for from := range 8*len(sealed) - 16 {
			x := changed(sealed, from, untold)
			mustOpen(t, x, x[:len(x)-2])
			mustRefuse(t, changed(sealed, from, untold|2), api.ErrSum)
		}
	}
}

// Rule 4: what is handed out is new memory.
func TestOpenedIsNew(t *testing.T) {
	sealed := Seal("bell, book and candle")
	s, e := Open(sealed)
	if e != api.OK || s != "bell, book and candle" {
		t.Fatalf("Open = %q, %d", s, e)
	}
	if unsafe.StringData(s) == unsafe.StringData(sealed) {
		t.Error("what is opened shares the memory of what was sealed")
	}
	if unsafe.StringData(Seal(s)) == unsafe.StringData(s) {
		t.Error("what is sealed shares the memory of its text")
	}
}

// Rule 6: what a call answers hangs on its arguments alone, whatever was asked ahead of it.
func TestTwice(t *testing.T) {
	next := numbers(11)
	for range 300 {
		s, r := anyText(next, int(next()%40)), int(next())
		sum, more, sealed := Sum(s), More(r, s), Seal(s)
		More(math.MinInt, anyText(next, 9))
		Seal(s + "\x00")
		mustRefuse(t, "x", api.ErrShort)
		mustRefuse(t, changed(sealed, 0, 1), api.ErrSum)
		mustOpen(t, sealed, s)
		if Sum(s) != sum || More(r, s) != more || Seal(s) != sealed {
			t.Fatalf("another answer for %q and %d", s, r)
		}
	}
}
