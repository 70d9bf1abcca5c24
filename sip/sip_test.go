package sip

import (
	"math"
	"slices"
	"strings"
	"testing"

	"belfry/api"
)

const (
	top = 1 << 63
	all = math.MaxUint64
)

// counting answers the bytes 0 1 2 .., going round at 256.
func counting(n int) string {
	l := make([]byte, n)
	for i := range l {
		l[i] = byte(i)
	}
	return string(l)
}

// numbers answers a source of words that is the same in each run.
func numbers(seed uint64) func() uint64 {
	return func() uint64 {
		seed += 0x9e3779b97f4a7c15
		z := (seed ^ seed>>30) * 0xbf58476d1ce4e5b9
		z = (z ^ z>>27) * 0x94d049bb133111eb
		return z ^ z>>31
	}
}

// 1.1: sums worked out by another program for SipHash with 2 and 4 rounds; the one of 15 bytes is the chapter's example.
func TestSum(t *testing.T) {
	up := Key(0x0706050403020100, 0x0f0e0d0c0b0a0908)
	down := Key(0x8899aabbccddeeff, 0x0011223344556677)
	for _, c := range []struct {
		n          int
		up1, down1 uint64
	}{
		{0, 0x726fdb47dd0e0e31, 0x6d16f3f4ea6e3ce9},
		{1, 0x74f839c593dc67fd, 0x8cdff9506211d4d8},
		{7, 0xab0200f58b01d137, 0x85e7e0457a3680d8},
		{8, 0x93f5f5799a932462, 0x56f452418d6f0af0},
		{9, 0x9e0082df0ba9e4b0, 0x7e31718fc7689ebb},
		{14, 0xf723ca908e7af2ee, 0xd94e1cd6d2091bbf},
		{15, 0xa129ca6149be45e5, 0x2c8a8b6c890459cf},
		{16, 0x3f2acc7f57c29bdb, 0xdc9f5b333db98c55},
		{63, 0x958a324ceb064572, 0x6a7a15141e09df33},
		{255, 0xa9c169fec74db21a, 0x1b80d35c031733ab},
		{256, 0x999d0526d2a7bfd7, 0x9fb0b5f2c2903c84},
		{257, 0x8a817b8d55b29748, 0x3286197e40bf3636},
		{1000, 0xdb9b3ed69e31c9a6, 0x5c24a0484916f7c9},
	} {
		s := counting(c.n)
		if x := Sum(up, s); x != c.up1 {
			t.Errorf("Sum(up, %d bytes) = %#x, want %#x", c.n, x, c.up1)
		}
		if x := Sum(down, s); x != c.down1 {
			t.Errorf("Sum(down, %d bytes) = %#x, want %#x", c.n, x, c.down1)
		}
	}
}

// 1.1: a sum is what the chapter says of rounds and words.
func TestSumByRoundsAndWords(t *testing.T) {
	next := numbers(1)
	for n := range 300 {
		k, l := next(), next()
		s := strings.Repeat("\x00\xff\x80", 100)[:n]
		v := [4]uint64{k ^ 0x736f6d6570736575, l ^ 0x646f72616e646f6d, k ^ 0x6c7967656e657261, l ^ 0x7465646279746573}
		for _, w := range Words(s) {
			v[3] ^= w
			v = Round(Round(v))
			v[0] ^= w
		}
		v[2] ^= 255
		v = Round(Round(Round(Round(v))))
		want := v[0] ^ v[1] ^ v[2] ^ v[3]
		if x := Sum(Key(k, l), s); x != want {
			t.Fatalf("Sum of %d bytes = %#x, want %#x", n, x, want)
		}
	}
}

// 1.1: each byte of the key, and of the text, counts (rule 6: nothing else does).
func TestSumHangsOnAll(t *testing.T) {
	s := counting(20)
	first := Sum(api.Key{}, s)
	for i := range len(api.Key{}) {
		var k api.Key
		k[i] = 1
		if Sum(k, s) == first {
			t.Errorf("the key's byte %d doesn't count", i)
		}
	}
	for i := range len(s) {
		l := []byte(s)
		l[i] ^= 0x80
		if Sum(api.Key{}, string(l)) == first {
			t.Errorf("the text's byte %d doesn't count", i)
		}
	}
	if Sum(api.Key{}, s) != first {
		t.Errorf("the same call answers another sum")
	}
}

// 1.1: a turn by 0, by 64, by more, by a number below 0, and by the least and greatest of them.
func TestTurn(t *testing.T) {
	for _, c := range []struct {
		x    uint64
		n    int
		want uint64
	}{
		{3, 0, 3},
		{3, 1, 6},
		{3, 63, top + 1},
		{3, 64, 3},
		{3, 65, 6},
		{3, 127, top + 1},
		{3, 128, 3},
		{3, 1<<40 + 2, 12},
		{3, -1, top + 1},
		{3, -2, 3 << 62},
		{3, -63, 6},
		{3, -64, 3},
		{3, -65, top + 1},
		{3, math.MaxInt, top + 1},
		{3, math.MinInt, 3},
		{3, math.MinInt + 1, 6},
		{0, 17, 0},
		{all, 17, all},
		{0x0123456789abcdef, 4, 0x123456789abcdef0},
		{0x0123456789abcdef, 32, 0x89abcdef01234567},
	} {
		if x := Turn(c.x, c.n); x != c.want {
			t.Errorf("Turn(%#x, %d) = %#x, want %#x", c.x, c.n, x, c.want)
		}
	}
}

// 1.1: bit by bit, the one at i goes to i + n, its rest by 64 from 0 on.
func TestTurnBits(t *testing.T) {
	for n := -200; n <= 200; n++ {
		for i := range 64 {
			to := ((i+n)%64 + 64) % 64
			if x := Turn(1<<i, n); x != 1<<to {
				t.Fatalf("Turn(1<<%d, %d) = %#x, want 1<<%d", i, n, x, to)
			}
		}
	}
}

// 1.1: the words of 0, 7, 8, 9, 255 bytes, and where the length goes round.
func TestWords(t *testing.T) {
	for _, c := range []struct {
		s    string
		want []uint64
	}{
		{"", []uint64{0}},
		{"\x00", []uint64{1 << 56}},
		{"a", []uint64{0x0100000000000061}},
		{"abcdefg", []uint64{0x0767666564636261}},
		{"abcdefgh", []uint64{0x6867666564636261, 8 << 56}},
		{"abcdefghi", []uint64{0x6867666564636261, 0x0900000000000069}},
		{"\xff\xfe\xc3", []uint64{0x0300000000c3feff}},
		{"\xff\xff\xff\xff\xff\xff\xff\xff", []uint64{all, 8 << 56}},
	} {
		if l := Words(c.s); !slices.Equal(l, c.want) {
			t.Errorf("Words(%q) = %#x, want %#x", c.s, l, c.want)
		}
	}
	for _, c := range []struct {
		n, words int
		last     uint64
	}{
		{248, 32, 0xf8 << 56},
		{255, 32, 0xfffefdfcfbfaf9f8},
		{256, 33, 0},
		{257, 33, 1 << 56},
		{511, 64, 0xfffefdfcfbfaf9f8},
		{512, 65, 0},
	} {
		if l := Words(counting(c.n)); len(l) != c.words || l[len(l)-1] != c.last {
			t.Errorf("Words of %d bytes: %d words, the last %#x, want %d, %#x", c.n, len(l), l[len(l)-1], c.words, c.last)
		}
	}
}

// 1.1 and rule 4: words are new memory at each call, spare room included.
func TestWordsAreNew(t *testing.T) {
	s := counting(23)
	first, second := Words(s), Words(s)
	want := slices.Clone(second)
	for i := range first[:cap(first)] {
		first[:cap(first)][i] = all
	}
	if !slices.Equal(second, want) || !slices.Equal(Words(s), want) || s != counting(23) {
		t.Errorf("words share memory: %#x, want %#x", second, want)
	}
}

// 1.1: rounds worked out step by step by another program.
func TestRound(t *testing.T) {
	for _, c := range []struct{ v, want [4]uint64 }{
		{[4]uint64{}, [4]uint64{}},
		{[4]uint64{1, 0, 0, 0}, [4]uint64{0x100000000, 0x20001, 0x100000000, 0x100000000}},
		{[4]uint64{0, 1, 0, 0}, [4]uint64{0x100000000, 0x40022001, 0x200100000000, 0x100000000}},
		{[4]uint64{0, 0, 1, 0}, [4]uint64{0x1, 0x1, 0x100000000, 0x200001}},
		{[4]uint64{0, 0, 0, 1}, [4]uint64{0x10001, 0x1, 0x100000000, 0x2000210001}},
		{[4]uint64{all, all, all, all}, [4]uint64{0xffffffff00000000, 0xfffffffffffdffff, 0xffffffffffffffff, 0xffffffff00200000}},
		{
			[4]uint64{0x736f6d6570736575, 0x646f72616e646f6d, 0x6c7967656e657261, 0x7465646279746573},
			[4]uint64{0x639487965a898377, 0xfe651ba6cbca2366, 0x3b1450431a71bdd2, 0x35e4d2c22cb914e1},
		},
	} {
		v := c.v
		if x := Round(v); x != c.want {
			t.Errorf("Round(%#x) = %#x, want %#x", c.v, x, c.want)
		}
		if v != c.v {
			t.Errorf("Round changed what it was handed: %#x, was %#x", v, c.v)
		}
	}
}

// 1.2: the lowest byte first, of each of the two words.
func TestKey(t *testing.T) {
	for _, c := range []struct {
		a, b uint64
		want api.Key
	}{
		{0, 0, api.Key{}},
		{0x0706050403020100, 0x0f0e0d0c0b0a0908, api.Key{0, 1, 2, 3, 4, 5, 6, 7, 8, 9, 10, 11, 12, 13, 14, 15}},
		{1, 0, api.Key{0: 1}},
		{0, 1, api.Key{8: 1}},
		{0xff << 56, 0xfe << 56, api.Key{7: 0xff, 15: 0xfe}},
		{all, 0, api.Key{255, 255, 255, 255, 255, 255, 255, 255}},
	} {
		if k := Key(c.a, c.b); k != c.want {
			t.Errorf("Key(%#x, %#x) = %v, want %v", c.a, c.b, k, c.want)
		}
	}
}

// undo is a round's way back.
func undo(v [4]uint64) [4]uint64 {
	a, b, c, d := v[0], v[1], v[2], v[3]
	c = Turn(c, -32)
	b = Turn(b^c, -17)
	c -= b
	d = Turn(d^a, -21)
	a -= d
	d = Turn(d^c, -16)
	c -= d
	a = Turn(a, -32)
	b = Turn(b^a, -13)
	a -= b
	return [4]uint64{a, b, c, d}
}

// 1.3: a round can be undone, both ways.
func TestRoundUndone(t *testing.T) {
	next := numbers(2)
	for range 5000 {
		v := [4]uint64{next(), next(), next(), next()}
		if x := undo(Round(v)); x != v {
			t.Fatalf("Round of %#x, undone: %#x", v, x)
		}
		if x := Round(undo(v)); x != v {
			t.Fatalf("Round of what was undone of %#x: %#x", v, x)
		}
	}
}

// 1.3: of unlike words a round makes unlike ones: each set of words that one or two bits tell apart.
func TestRoundUnlike(t *testing.T) {
	met := map[[4]uint64][4]uint64{}
	meet := func(v [4]uint64) {
		x := Round(v)
		if other, ok := met[x]; ok {
			t.Fatalf("Round(%#x) and Round(%#x) are both %#x", v, other, x)
		}
		met[x] = v
	}
	meet([4]uint64{})
	for i := range 256 {
		var one [4]uint64
		one[i/64] ^= 1 << (i % 64)
		meet(one)
		for j := range i {
			two := one
			two[j/64] ^= 1 << (j % 64)
			meet(two)
		}
	}
}

// text answers the text whose words these are, of at most 255 bytes.
func text(l []uint64) string {
	var s []byte
	for _, w := range l {
		for i := range 8 {
			s = append(s, byte(w>>(8*i)))
		}
	}
	return string(s[:s[len(s)-1]])
}

// 1.3: of each length up to 255 the words tell the text, so unlike texts have unlike words.
func TestWordsTellTheText(t *testing.T) {
	next := numbers(3)
	for n := range 256 {
		l := make([]byte, n)
		for i := range l {
			l[i] = byte(next())
		}
		for _, s := range []string{string(l), strings.Repeat("\x00", n), strings.Repeat("\xff", n), counting(n)} {
			if x := text(Words(s)); x != s {
				t.Fatalf("the words of %q tell %q", s, x)
			}
		}
	}
}

// 1.3: texts of zero bytes alone are told apart by their lengths, and each byte of a text tells.
func TestWordsUnlike(t *testing.T) {
	met := map[string]string{}
	meet := func(s string) {
		var b strings.Builder
		for _, w := range Words(s) {
			for i := range 8 {
				b.WriteByte(byte(w >> (8 * i)))
			}
		}
		if other, ok := met[b.String()]; ok {
			t.Fatalf("%q and %q have the same words", s, other)
		}
		met[b.String()] = s
	}
	for n := range 256 {
		zeros := strings.Repeat("\x00", n)
		meet(zeros)
		for i := range n {
			meet(zeros[:i] + "\x01" + zeros[i+1:])
			meet(zeros[:i] + "\xff" + zeros[i+1:])
		}
	}
}
