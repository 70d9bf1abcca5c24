package bch

import (
	"math"
	"math/bits"
	"slices"
	"testing"
)

// theGenerator is the generator as a number, as another program worked it out: bit i of it at the power i of x.
const theGenerator = 0xa1ab815bc7ec8025

// codewords are numbers with the bits 0 to 62 of their codewords, as another program worked them out.
var codewords = []struct{ x, low uint64 }{
	{0, 0},
	{1, 0x21ab815bc7ec8025},
	{2, 0x435702b78fd9004a},
	{1 << 63, 0x50d5c0ade3f64012},
	{math.MaxUint64, 1<<63 - 1},
	{9, 0x6fa0893277518147},
	{1<<63 + 77, 0x4f2d0ad2114fca45},
	{0x0123456789abcdef, 0x42d26b5cc6d55eda},
	{0xfedcba9876543210, 0x3d2d94a3392aa125},
	{0xaaaaaaaaaaaaaaaa, 0x35cc2a63e80ed549},
	{0x5555555555555555, 0x4a33d59c17f12ab6},
	{0xffffffff00000000, 0x17972e8d1d8b3f7b},
}

// numbers answers a source of words that is the same in each run.
func numbers(seed uint64) func() uint64 {
	return func() uint64 {
		seed += 0x9e3779b97f4a7c15
		z := (seed ^ seed>>30) * 0xbf58476d1ce4e5b9
		z = (z ^ z>>27) * 0x94d049bb133111eb
		return z ^ z>>31
	}
}

// product answers a product in the field by hand, without its package.
func product(a, b int) int {
	p := 0
	for i := range 7 {
		if b>>i&1 == 1 {
			p ^= a << i
		}
	}
	for i := 13; i >= 7; i-- {
		if p>>i&1 == 1 {
			p ^= 137 << (i - 7)
		}
	}
	return p
}

// power answers a power of 2 by hand.
func power(n int) int {
	x := 1
	for range n % 127 {
		x = product(x, 2)
	}
	return x
}

// at answers what a word's polynomial is at the power n of 2, by hand: the sum of the powers of its bits.
func at(w Word, n int) int {
	s := 0
	for i, bit := range w {
		if bit {
			s ^= power(n * i)
		}
	}
	return s
}

// syndromes answers a word's syndromes by hand.
func syndromes(w Word) []int {
	var l []int
	for n := 1; n <= 20; n++ {
		l = append(l, at(w, n))
	}
	return l
}

// laid answers the word whose bits 0 to 62 are a number's, and whose bits from 63 on another one's.
func laid(x, low uint64) Word {
	var w Word
	for i := range 63 {
		w[i] = low>>i&1 == 1
	}
	for i := range 64 {
		w[63+i] = x>>i&1 == 1
	}
	return w
}

// ones answers the word with bits at these places alone.
func ones(places ...int) Word {
	var w Word
	for _, i := range places {
		w[i] = true
	}
	return w
}

// sum answers the sum of two words, bit by bit.
func sum(a, b Word) Word {
	for i := range a {
		a[i] = a[i] != b[i]
	}
	return a
}

// weight answers how many bits a word has.
func weight(w Word) int {
	n := 0
	for _, bit := range w {
		if bit {
			n++
		}
	}
	return n
}

// random answers a word out of a source.
func random(next func() uint64) Word { return laid(next(), next()) }

// pick answers n places, none of them twice.
func pick(next func() uint64, n int) []int {
	var l []int
	for len(l) < n {
		if i := int(next() % 127); !slices.Contains(l, i) {
			l = append(l, i)
		}
	}
	return l
}

// times answers the product of polynomials of bits, by hand.
func times(a, b uint64) (uint64, uint64) {
	var high, low uint64
	for i := range 64 {
		if b>>i&1 == 1 {
			low ^= a << i
			high ^= a >> (64 - i)
		}
	}
	return high, low
}

// least answers the least polynomial of bits that is 0 at the power n of 2: of degree 7.
func least(n int) uint64 {
	for p := uint64(2); ; p++ {
		s := 0
		for i := range 8 {
			if p>>i&1 == 1 {
				s ^= power(n * i)
			}
		}
		if s == 0 {
			return p
		}
	}
}

// 5.1: 64 bits, the first and the last of them 1, each 0 or 1, as another program worked them out.
func TestGenerator(t *testing.T) {
	g := Generator()
	if len(g) != 64 {
		t.Fatalf("Generator has %d bits, want 64", len(g))
	}
	if g[0] != 1 || g[63] != 1 {
		t.Errorf("the first and the last bit are %d, %d; want 1, 1", g[0], g[63])
	}
	for i, bit := range g {
		if bit != int(uint64(theGenerator)>>i&1) {
			t.Errorf("the bit %d is %d", i, bit)
		}
	}
}

// 5.1: the generator is the product of the least polynomials of the roots, each of them once.
func TestGeneratorIsTheProduct(t *testing.T) {
	var met []uint64
	g := uint64(1)
	for n := 1; n <= 20; n++ {
		p := least(n)
		if slices.Contains(met, p) {
			continue
		}
		met = append(met, p)
		high, low := times(g, p)
		if high != 0 {
			t.Fatal("the product is of a degree of 64 at least")
		}
		g = low
	}
	var x uint64
	for i, bit := range Generator() {
		x |= uint64(bit) << i
	}
	if x != g {
		t.Errorf("Generator = %#x, want %#x", x, g)
	}
}

// 5.1: the generator is 0 at all powers of 2 that are 2^j i, and nowhere else.
func TestGeneratorsRoots(t *testing.T) {
	var want [127]bool
	for i := 1; i <= 20; i++ {
		for j := range 7 {
			want[i<<j%127] = true
		}
	}
	var w Word
	for i, bit := range Generator() {
		w[i] = bit == 1
	}
	n := 0
	for i := range 127 {
		if got := at(w, i) == 0; got != want[i] {
			t.Errorf("0 at the power %d of 2: %t, want %t", i, got, want[i])
		}
		if want[i] {
			n++
		}
	}
	if n != 63 || at(w, 0) == 0 {
		t.Errorf("%d powers; at 1 it is %d", n, at(w, 0))
	}
}

// Rule 4: the generator handed out is new memory, each time.
func TestGeneratorIsNew(t *testing.T) {
	g := Generator()
	g = g[:cap(g)]
	for i := range g {
		g[i] = 7
	}
	for i, bit := range Generator() {
		if bit != int(uint64(theGenerator)>>i&1) {
			t.Fatalf("the bit %d of another answer is %d", i, bit)
		}
	}
	if Encode(1) != laid(1, 0x21ab815bc7ec8025) {
		t.Error("Encode hangs on an earlier answer")
	}
}

// 5.1: the chapter's example.
func TestEncodeOfNothing(t *testing.T) {
	if w := Encode(0); w != (Word{}) {
		t.Errorf("Encode(0) has %d bits", weight(w))
	}
}

// 5.1: codewords that another program worked out; of no bit, of one, of all bits among them.
func TestEncode(t *testing.T) {
	for _, c := range codewords {
		if w := Encode(c.x); w != laid(c.x, c.low) {
			t.Errorf("Encode(%#x) = %v", c.x, w)
		}
	}
}

// 5.1: of one bit each: the bit itself, and no other from 63 on; below it what makes all syndromes 0, worked out by hand.
func TestEncodeOfOneBit(t *testing.T) {
	low := uint64(theGenerator) &^ (1 << 63) // the rest of x^63
	for i := range 64 {
		if w := Encode(1 << i); w != laid(1<<i, low) {
			t.Errorf("Encode(1 << %d) = %v", i, w)
		}
		low <<= 1
		if low>>63 == 1 {
			low ^= theGenerator
		}
	}
}

// 5.1: of many numbers: the number stands from 63 on, and all syndromes, worked out by hand, are 0: there is one such word.
func TestEncodeOfMany(t *testing.T) {
	next := numbers(1)
	for range 200 {
		x := next()
		w := Encode(x)
		for i := range 64 {
			if w[63+i] != (x>>i&1 == 1) {
				t.Fatalf("Encode(%#x) has another bit at %d", x, 63+i)
			}
		}
		if l := syndromes(w); !slices.Equal(l, make([]int, 20)) {
			t.Fatalf("Encode(%#x) has the syndromes %v", x, l)
		}
	}
}

// 5.1: the codeword of bits that stand alike in a number is the same at each call.
func TestEncodeAgain(t *testing.T) {
	next := numbers(2)
	for range 50 {
		x := next()
		w := Encode(x)
		Encode(next())
		if Encode(x) != w {
			t.Fatalf("Encode(%#x) isn't the same again", x)
		}
	}
}

// 5.1: what a word tells: each place's bit, of words that are none of the code's, too.
func TestInfo(t *testing.T) {
	if x := Info(Word{}); x != 0 {
		t.Errorf("Info of no bit = %#x", x)
	}
	for i := range 127 {
		want := uint64(0)
		if i >= 63 {
			want = 1 << (i - 63)
		}
		if x := Info(ones(i)); x != want {
			t.Errorf("Info of the bit %d = %#x, want %#x", i, x, want)
		}
	}
	next := numbers(3)
	for range 200 {
		x, low := next(), next()
		if got := Info(laid(x, low)); got != x {
			t.Fatalf("Info = %#x, want %#x", got, x)
		}
	}
	if x := Info(laid(math.MaxUint64, 0)); x != math.MaxUint64 {
		t.Errorf("Info of all bits from 63 on = %#x", x)
	}
	if x := Info(laid(0, math.MaxUint64)); x != 0 {
		t.Errorf("Info of all bits below 63 = %#x", x)
	}
}

// 5.2: of a word without a bit: 20 times 0.
func TestSyndromesOfNoBit(t *testing.T) {
	if l := Syndromes(Word{}); !slices.Equal(l, make([]int, 20)) {
		t.Errorf("Syndromes of no bit = %v", l)
	}
}

// 5.2: of one bit: powers of the bit's own, in the order of the powers 1 to 20 of 2.
func TestSyndromesOfOneBit(t *testing.T) {
	want := map[int][]int{
		0: {1, 1, 1, 1, 1, 1, 1, 1, 1, 1, 1, 1, 1, 1, 1, 1, 1, 1, 1, 1},
		1: {2, 4, 8, 16, 32, 64, 9, 18, 36, 72, 25, 50, 100, 65, 11, 22, 44, 88, 57, 114},
	}
	for i, l := range want {
		if got := Syndromes(ones(i)); !slices.Equal(got, l) {
			t.Errorf("Syndromes of the bit %d = %v, want %v", i, got, l)
		}
	}
	for i := range 127 {
		var l []int
		for n := 1; n <= 20; n++ {
			l = append(l, power(n*i))
		}
		if got := Syndromes(ones(i)); !slices.Equal(got, l) {
			t.Errorf("Syndromes of the bit %d = %v, want %v", i, got, l)
		}
	}
}

// 5.2: of codewords: 20 times 0.
func TestSyndromesOfCodewords(t *testing.T) {
	for _, c := range codewords {
		if l := Syndromes(laid(c.x, c.low)); !slices.Equal(l, make([]int, 20)) {
			t.Errorf("Syndromes of %#x's codeword = %v", c.x, l)
		}
	}
}

// 5.2: of words that are none of the code's, and of all bits, as worked out by hand.
func TestSyndromesOfMany(t *testing.T) {
	next := numbers(4)
	for range 200 {
		w := random(next)
		if got, want := Syndromes(w), syndromes(w); !slices.Equal(got, want) {
			t.Fatalf("Syndromes of %v = %v, want %v", w, got, want)
		}
	}
	if l := Syndromes(laid(math.MaxUint64, math.MaxUint64)); !slices.Equal(l, make([]int, 20)) {
		t.Errorf("Syndromes of all bits = %v", l)
	}
}

// 5.2: what isn't of the code has its changes' syndromes: a codeword's own are 0.
func TestSyndromesAreTheChanges(t *testing.T) {
	next := numbers(5)
	for range 100 {
		c, changes := Encode(next()), ones(pick(next, 1+int(next()%30))...)
		if got, want := Syndromes(sum(c, changes)), syndromes(changes); !slices.Equal(got, want) {
			t.Fatalf("Syndromes = %v, want %v", got, want)
		}
	}
}

// Rule 4: the syndromes handed out are new memory, each time.
func TestSyndromesAreNew(t *testing.T) {
	w := ones(3, 50, 126)
	l := Syndromes(w)
	l = l[:cap(l)]
	for i := range l {
		l[i] = -1
	}
	if got, want := Syndromes(w), syndromes(w); !slices.Equal(got, want) {
		t.Errorf("Syndromes = %v, want %v", got, want)
	}
}

// 5.2: codewords are, of no bit and of all bits, too.
func TestIs(t *testing.T) {
	for _, c := range codewords {
		if !Is(laid(c.x, c.low)) {
			t.Errorf("Is of %#x's codeword = false", c.x)
		}
	}
	next := numbers(6)
	for range 200 {
		if x := next(); !Is(Encode(x)) {
			t.Errorf("Is of %#x's codeword = false", x)
		}
	}
}

// 5.2: a codeword with one bit changed, or two, whichever they are, is none.
func TestIsOfFewChanges(t *testing.T) {
	c := Encode(0x0123456789abcdef)
	for i := range 127 {
		if Is(sum(c, ones(i))) {
			t.Errorf("Is with the bit %d changed", i)
		}
		for j := range i {
			if Is(sum(c, ones(i, j))) {
				t.Errorf("Is with the bits %d and %d changed", i, j)
			}
		}
	}
}

// 5.2: a codeword with 1 to 20 bits changed is none.
func TestIsOfChanges(t *testing.T) {
	next := numbers(7)
	for n := 1; n <= 20; n++ {
		for range 100 {
			x, l := next(), pick(next, n)
			if Is(sum(Encode(x), ones(l...))) {
				t.Fatalf("Is of %#x's codeword with the bits %v changed", x, l)
			}
		}
		row := make([]int, n)
		for i := range row {
			row[i] = i
		}
		for range 127 {
			if Is(ones(row...)) {
				t.Fatalf("Is of the bits %v alone", row)
			}
			for i := range row {
				row[i] = (row[i] + 1) % 127
			}
		}
	}
}

// 5.2: a word that is 0 at all the powers but those of one root is no codeword.
func TestIsAsksEachPower(t *testing.T) {
	for i := 1; i <= 19; i += 2 {
		g := uint64(1)
		var met []uint64
		for n := 1; n <= 20; n++ {
			if p := least(n); p != least(i) && !slices.Contains(met, p) {
				met = append(met, p)
				_, g = times(g, p)
			}
		}
		w := laid(0, g)
		if at(w, i) == 0 || bits.Len64(g) != 57 {
			t.Fatalf("the test's word is wrong at %d", i)
		}
		if Is(w) {
			t.Errorf("Is of a word that isn't 0 at the power %d of 2", i)
		}
	}
}

// 5.2: words that are none of the code's: all syndromes, worked out by hand, tell it.
func TestIsOfMany(t *testing.T) {
	next := numbers(8)
	for range 300 {
		w := random(next)
		if got, want := Is(w), slices.Equal(syndromes(w), make([]int, 20)); got != want {
			t.Fatalf("Is of %v = %t", w, got)
		}
	}
}

// 5.2: a word has no distance from itself, words with no bit alike have 127; turned about it is the same.
func TestDistance(t *testing.T) {
	next := numbers(9)
	all := laid(math.MaxUint64, math.MaxUint64)
	for range 100 {
		a := random(next)
		if n := Distance(a, a); n != 0 {
			t.Fatalf("Distance of a word and itself = %d", n)
		}
		if n := Distance(a, sum(a, all)); n != 127 {
			t.Fatalf("Distance of words with no bit alike = %d", n)
		}
		k := int(next() % 128)
		b := sum(a, ones(pick(next, k)...))
		if Distance(a, b) != k || Distance(b, a) != k {
			t.Fatalf("Distance = %d, and turned about %d, want %d", Distance(a, b), Distance(b, a), k)
		}
	}
	for i := range 127 {
		if n := Distance(Word{}, ones(i)); n != 1 {
			t.Errorf("Distance of the bit %d and none = %d", i, n)
		}
		if n := Distance(all, ones(i)); n != 126 {
			t.Errorf("Distance of the bit %d and all = %d", i, n)
		}
	}
}

// 5.3: what a codeword tells is what it was made of.
func TestInfoOfEncode(t *testing.T) {
	for i := range 64 {
		for _, x := range []uint64{1 << i, 1<<i - 1, ^uint64(1 << i)} {
			if got := Info(Encode(x)); got != x {
				t.Errorf("Info(Encode(%#x)) = %#x", x, got)
			}
		}
	}
	next := numbers(10)
	for range 300 {
		if x := next(); Info(Encode(x)) != x {
			t.Errorf("Info(Encode(%#x)) = %#x", x, Info(Encode(x)))
		}
	}
	if x := Info(Encode(math.MaxUint64)); x != math.MaxUint64 {
		t.Errorf("Info of all bits' codeword = %#x", x)
	}
}

// 5.3: the sum of two codewords is the codeword of their numbers' sum.
func TestSumOfCodewords(t *testing.T) {
	next := numbers(11)
	for range 200 {
		x, y := next(), next()
		s := sum(Encode(x), Encode(y))
		if !Is(s) || s != Encode(x^y) {
			t.Fatalf("the sum of %#x's and %#x's codewords is none", x, y)
		}
		if s := sum(Encode(x), Encode(x)); s != (Word{}) || !Is(s) {
			t.Fatalf("the sum of %#x's codeword and itself isn't 0", x)
		}
	}
}

// 5.3: two unlike codewords differ in 21 bits at least: numbers that are unlike in one bit, in two, in three, and others.
func TestCodewordsAreFar(t *testing.T) {
	var one [64]Word
	for i := range one {
		one[i] = Encode(1 << i)
	}
	fewest := 127
	far := func(w Word) {
		n := Distance(w, Word{})
		fewest = min(fewest, n)
		if n < 21 {
			t.Errorf("a codeword of %d bits: %v", n, w)
		}
	}
	for i := range one {
		far(one[i])
		for j := range i {
			two := sum(one[i], one[j])
			far(two)
			for k := range j {
				far(sum(two, one[k]))
			}
		}
	}
	next := numbers(12)
	for range 300 {
		x, y := next(), next()
		a, b := Encode(x), Encode(y)
		if n := Distance(a, b); n < 21 {
			t.Errorf("%#x's and %#x's codewords differ in %d bits", x, y, n)
		}
	}
	if fewest != 21 {
		t.Errorf("the least distance met is %d; it was 21", fewest)
	}
}

// 5.3: a codeword turned round by one place is one: the powers of 2 at which it is 0 stay.
func TestCodewordsTurnedRound(t *testing.T) {
	next := numbers(13)
	for range 50 {
		w := Encode(next())
		var turned Word
		for i := range w {
			turned[(i+1)%127] = w[i]
		}
		if !Is(turned) {
			t.Fatalf("turned round, a codeword is none")
		}
		if Encode(Info(turned)) != turned {
			t.Fatalf("turned round, a codeword is another one's")
		}
	}
}

// Rule 4: words are handed in as copies, and stay.
func TestWordsStay(t *testing.T) {
	next := numbers(14)
	a, b := random(next), random(next)
	c, d := a, b
	Syndromes(a)
	Is(a)
	Info(a)
	Distance(a, b)
	if a != c || b != d {
		t.Error("a word was changed")
	}
}
