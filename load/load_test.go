package load

import (
	"math"
	"testing"

	"belfry/api"
	"belfry/bch"
	"belfry/sip"
)

const most = 1<<48 - 1 // the greatest payload

// The keys of the table below.
var (
	zero = api.Key{}
	nine = api.Key{9}
	up   = api.Key{0, 1, 2, 3, 4, 5, 6, 7, 8, 9, 10, 11, 12, 13, 14, 15}
	full = api.Key{255, 255, 255, 255, 255, 255, 255, 255, 255, 255, 255, 255, 255, 255, 255, 255}
)

// laid are checks and words (their bits 0 to 63, and those from 64 on) worked out by another program.
var laid = []struct {
	k         api.Key
	payload   int
	check     int
	low, high uint64
}{
	{zero, 0, 0x1c6a, 0x296c14b3c2587d00, 0xe35000000000000},
	{nine, 0, 0x1262, 0x7ed2607c470c3327, 0x931000000000000},
	{up, 0, 0xa86c, 0x4397ad82c60242c9, 0x5436000000000000},
	{full, 0, 0xabe2, 0x77fc5f2fd5c68ae5, 0x55f1000000000000},
	{zero, 1, 0x240, 0xbcc87103d6c9a483, 0x120000000000000},
	{nine, 1, 0x1c8, 0xa43e241c35433170, 0xe4000000000000},
	{up, 255, 0x325d, 0x9751c63340bb4299, 0x192e80000000007f},
	{full, 255, 0xf2d9, 0xf2858a865340675e, 0x796c80000000007f},
	{zero, 256, 0x259e, 0x6b25daaab7793b9d, 0x12cf000000000080},
	{nine, 256, 0xc9fa, 0x7e4f54e543a0ee73, 0x64fd000000000080},
	{up, 0x60504030201, 0xaa7b, 0x80b2c6b4977b2034, 0x553d830282018100},
	{full, 0x60504030201, 0xca47, 0x92b9e62110bc8527, 0x6523830282018100},
	{nine, 1 << 47, 0x4102, 0x290b97d9c5949f17, 0x2081400000000000},
	{up, 1 << 47, 0xa406, 0x69aa6b66e8e0505, 0x5203400000000000},
	{nine, 1<<47 + 5, 0x32c8, 0xf71c791d1e22308a, 0x1964400000000002},
	{zero, most, 0x1368, 0xb4f7203f6c1f90b3, 0x9b47fffffffffff},
	{nine, most, 0x3d4a, 0xe8dcd9616ba05c3f, 0x1ea57fffffffffff},
	{up, most, 0x994e, 0xdb4525b430e1c0ab, 0x4ca77fffffffffff},
	{full, most, 0xfd99, 0xf4d27dd517a6325a, 0x7eccffffffffffff},
}

// noPayloads are numbers out of a payload's range.
var noPayloads = []int{-1, -2, -1 << 47, -most, -1 << 48, -1<<48 + 5, math.MinInt, math.MinInt + 1, 1 << 48, 1<<48 + 1, 1<<48 + 5, 1 << 49, 1 << 62, 1<<62 + 5, math.MaxInt}

// numbers answers a source of words that is the same in each run.
func numbers(seed uint64) func() uint64 {
	return func() uint64 {
		seed += 0x9e3779b97f4a7c15
		z := (seed ^ seed>>30) * 0xbf58476d1ce4e5b9
		z = (z ^ z>>27) * 0x94d049bb133111eb
		return z ^ z>>31
	}
}

// check answers a payload's check, by hand but for the sum.
func check(k api.Key, p int) int {
	s := string([]byte{byte(p), byte(p >> 8), byte(p >> 16), byte(p >> 24), byte(p >> 32), byte(p >> 40)})
	return int(sip.Sum(k, s) % 65536)
}

// numberOf answers a payload's number by hand.
func numberOf(k api.Key, p int) uint64 { return uint64(p) + 281474976710656*uint64(check(k, p)) }

// read answers by hand what Read is to answer.
func read(k api.Key, x uint64) (int, api.Errno) {
	p := int(x % 281474976710656)
	if x/281474976710656 != uint64(check(k, p)) {
		return 0, api.ErrCheck
	}
	return p, api.OK
}

// pick answers n unlike places.
func pick(next func() uint64, n int) []int {
	l := make([]int, api.Code)
	for i := range l {
		l[i] = i
	}
	for i := range n {
		j := i + int(next()%uint64(len(l)-i))
		l[i], l[j] = l[j], l[i]
	}
	return l[:n]
}

// saying answers votes that say a word, each of one size.
func saying(w bch.Word, size int) [api.Code]int {
	var votes [api.Code]int
	for i, bit := range w {
		votes[i] = size
		if bit {
			votes[i] = -size
		}
	}
	return votes
}

// spoil makes votes say the other bit at some places, and nothing at others.
func spoil(votes [api.Code]int, other, none []int) [api.Code]int {
	for _, i := range other {
		votes[i] = -votes[i]
	}
	for _, i := range none {
		votes[i] = 0
	}
	return votes
}

// some answers a key and a payload.
func some(next func() uint64) (api.Key, int) {
	return sip.Key(next(), next()), int(next() >> 16)
}

// 7.1: of the payloads 0 and 2^48 - 1, and of others, the lowest byte first.
func TestCheck(t *testing.T) {
	for _, c := range laid {
		if x := Check(c.k, c.payload); x != c.check {
			t.Errorf("Check(%v, %#x) = %#x, want %#x", c.k, c.payload, x, c.check)
		}
	}
}

// 7.1: the check is the 16 lowest bits of the sum of six bytes, whichever of them isn't 0.
func TestCheckBySum(t *testing.T) {
	next := numbers(1)
	for range 500 {
		k, p := some(next)
		for i := range 48 {
			for _, p := range []int{1 << i, most >> i, p >> i} {
				if x := Check(k, p); x != check(k, p) {
					t.Fatalf("Check(%v, %#x) = %#x, want %#x", k, p, x, check(k, p))
				}
			}
		}
	}
}

// 7.1: -1 of no payload.
func TestCheckOfNoPayload(t *testing.T) {
	for _, k := range []api.Key{zero, nine, up, full} {
		for _, p := range noPayloads {
			if x := Check(k, p); x != -1 {
				t.Errorf("Check(%v, %d) = %d", k, p, x)
			}
		}
	}
}

// 7.1: the word of a payload, bit by bit.
func TestLay(t *testing.T) {
	for _, c := range laid {
		w, e := Lay(c.k, c.payload)
		if e != api.OK {
			t.Errorf("Lay(%v, %#x) = %d", c.k, c.payload, e)
		}
		for i, bit := range w {
			want := c.low>>i&1 == 1
			if i > 63 {
				want = c.high>>(i-64)&1 == 1
			}
			if bit != want {
				t.Errorf("Lay(%v, %#x): the bit %d = %t", c.k, c.payload, i, bit)
			}
		}
	}
}

// 7.1: the word of a payload is its number's codeword, and so it tells that number; the same again.
func TestLayIsACodeword(t *testing.T) {
	next := numbers(2)
	for i := range 500 {
		k, p := some(next)
		p >>= i % 48
		w, e := Lay(k, p)
		if e != api.OK || w != bch.Encode(numberOf(k, p)) || bch.Info(w) != numberOf(k, p) || !bch.Is(w) {
			t.Fatalf("Lay(%v, %#x) = %v, %d", k, p, w, e)
		}
		if again, e := Lay(k, p); e != api.OK || again != w {
			t.Fatalf("Lay(%v, %#x) again = %v, %d", k, p, again, e)
		}
	}
}

// 7.1: ErrRange of no payload, and no bit.
func TestLayOfNoPayload(t *testing.T) {
	for _, k := range []api.Key{zero, nine, up, full} {
		for _, p := range noPayloads {
			if w, e := Lay(k, p); e != api.ErrRange || w != (bch.Word{}) {
				t.Errorf("Lay(%v, %d) = %v, %d", k, p, w, e)
			}
		}
	}
}

// 7.1: the payload of its number; with any one bit changed, in the payload's part or the check's, ErrCheck.
func TestRead(t *testing.T) {
	for _, c := range laid {
		x := uint64(c.payload) + 1<<48*uint64(c.check)
		if p, e := Read(c.k, x); p != c.payload || e != api.OK {
			t.Errorf("Read(%v, %#x) = %#x, %d", c.k, x, p, e)
		}
		for i := range 64 {
			if p, e := Read(c.k, x^1<<i); p != 0 || e != api.ErrCheck {
				t.Errorf("Read(%v, %#x) = %#x, %d", c.k, x^1<<i, p, e)
			}
		}
	}
}

// 7.1: any number is read by hand, too; those with a payload's check are rare, so some are made.
func TestReadOfAny(t *testing.T) {
	next := numbers(3)
	for i := range 3000 {
		k, p := some(next)
		p >>= i % 48
		for _, x := range []uint64{next(), numberOf(k, p), numberOf(k, p) + 1<<48, numberOf(k, p) - 1<<48, uint64(p), 0, math.MaxUint64} {
			want, wantE := read(k, x)
			if p, e := Read(k, x); p != want || e != wantE {
				t.Fatalf("Read(%v, %#x) = %#x, %d; want %#x, %d", k, x, p, e, want, wantE)
			}
		}
	}
}

// 7.1: what is another payload's number by its lower bits alone isn't read: all of the check counts, and all of the payload.
func TestReadUnderAnotherKey(t *testing.T) {
	next := numbers(4)
	for range 500 {
		k, p := some(next)
		other, _ := some(next)
		for i := range k {
			near := k
			near[i] ^= 1 << (next() % 8)
			want, wantE := read(near, numberOf(k, p))
			if got, e := Read(near, numberOf(k, p)); got != want || e != wantE {
				t.Fatalf("Read(%v, %#x) = %#x, %d", near, numberOf(k, p), got, e)
			}
		}
		want, wantE := read(other, numberOf(k, p))
		if got, e := Read(other, numberOf(k, p)); got != want || e != wantE {
			t.Fatalf("Read(%v, %#x) = %#x, %d", other, numberOf(k, p), got, e)
		}
	}
}

// 7.2: above 0 the bit is 0, below 0 it is 1, at 0 there's a hole, at each place, whatever the others are.
func TestDecide(t *testing.T) {
	for i := range api.Code {
		for _, c := range []struct {
			vote      int
			bit, hole bool
		}{
			{1, false, false}, {2, false, false}, {1 << 32, false, false}, {math.MaxInt, false, false},
			{-1, true, false}, {-2, true, false}, {-1 << 32, true, false}, {math.MinInt, true, false}, {0, false, true},
		} {
			for _, rest := range []int{0, 1, -1, math.MinInt, math.MaxInt} {
				var votes [api.Code]int
				var word, none bch.Word
				for j := range votes {
					votes[j], word[j], none[j] = rest, rest < 0, rest == 0
				}
				votes[i], word[i], none[i] = c.vote, c.bit, c.hole
				if w, holes := Decide(votes); w != word || holes != none {
					t.Fatalf("Decide of %d at %d among %d = %v, %v", c.vote, i, rest, w, holes)
				}
			}
		}
	}
}

// 7.2: votes of all kinds at a time.
func TestDecideOfMany(t *testing.T) {
	next := numbers(5)
	kinds := []int{0, 1, -1, math.MinInt, math.MaxInt, 1 << 40, -1 << 40, 0}
	for range 300 {
		var votes [api.Code]int
		for i := range votes {
			votes[i] = kinds[next()%8]
		}
		w, holes := Decide(votes)
		for i, v := range votes {
			if w[i] != (v < 0) || holes[i] != (v == 0) {
				t.Fatalf("Decide of %d at %d = %t, %t", v, i, w[i], holes[i])
			}
		}
		if again, none := Decide(votes); again != w || none != holes {
			t.Fatal("Decide again says something else")
		}
	}
}

// 7.2: the chapter's example.
func TestTakeOfNoVotes(t *testing.T) {
	for _, k := range []api.Key{zero, nine, up, full} {
		if p, e := Take(k, [api.Code]int{}); p != 0 || e != api.ErrMany {
			t.Errorf("Take of no votes = %d, %d", p, e)
		}
	}
}

// 7.2, 7.3: of votes that say a payload's word, each of 1, or great, or the greatest there are, the payload.
func TestTakeOfAWord(t *testing.T) {
	for _, c := range laid {
		w, _ := Lay(c.k, c.payload)
		for _, size := range []int{1, 2, 1 << 20, 1 << 60, math.MaxInt} {
			if p, e := Take(c.k, saying(w, size)); p != c.payload || e != api.OK {
				t.Errorf("Take of votes of %d = %#x, %d; want %#x", size, p, e, c.payload)
			}
		}
		least := saying(w, 1)
		for i, v := range least {
			if v < 0 {
				least[i] = math.MinInt
			}
		}
		if p, e := Take(c.k, least); p != c.payload || e != api.OK {
			t.Errorf("Take of the least votes = %#x, %d; want %#x", p, e, c.payload)
		}
	}
}

// 7.2, 7.3: with each pair of counts of other votes and none that is together 20 at most the payload is taken, however great the other votes are.
func TestTakeWithin(t *testing.T) {
	next := numbers(6)
	for other := range 11 {
		for none := range 21 - 2*other {
			for range 4 {
				k, p := some(next)
				w, _ := Lay(k, p)
				places := pick(next, other+none)
				votes := spoil(saying(w, 1), places[:other], places[other:])
				for _, i := range places[:other] {
					votes[i] *= 1 << 50
				}
				if got, e := Take(k, votes); got != p || e != api.OK {
					t.Fatalf("Take of %d other votes and %d holes = %#x, %d; want %#x", other, none, got, e, p)
				}
			}
		}
	}
}

// 7.2, 7.3: twice the other votes, and none, together 19 and 20: the payload; 21 and 22: ErrMany, as the word isn't near any more, nor, with these places, another one.
func TestTakeAboutTheEdge(t *testing.T) {
	next := numbers(7)
	for together := 19; together <= 22; together++ {
		for other := 0; 2*other <= together; other++ {
			k, p := some(next)
			w, _ := Lay(k, p)
			none := together - 2*other
			places := pick(next, other+none)
			got, e := Take(k, spoil(saying(w, 7), places[:other], places[other:]))
			if together <= 20 && (got != p || e != api.OK) {
				t.Errorf("Take of %d other votes and %d holes = %#x, %d; want %#x", other, none, got, e, p)
			}
			if together > 20 && (got != 0 || e != api.ErrMany) {
				t.Errorf("Take of %d other votes and %d holes = %#x, %d; want ErrMany", other, none, got, e)
			}
		}
	}
}

// 7.3: such places at the first bit and at the last one, and in rows from them on.
func TestTakeAtTheEnds(t *testing.T) {
	first, last := make([]int, 22), make([]int, 22)
	for i := range first {
		first[i], last[i] = i, api.Code-1-i
	}
	for _, p := range []int{0, 1, most} {
		w, _ := Lay(up, p)
		votes := saying(w, 1)
		for _, l := range [][]int{first, last} {
			for n := range 23 {
				got, e := Take(up, spoil(votes, nil, l[:n]))
				if n <= 20 && (got != p || e != api.OK) || n > 20 && (got != 0 || e != api.ErrMany) {
					t.Errorf("Take of %d holes from %d on = %#x, %d", n, l[0], got, e)
				}
			}
			for n := range 12 {
				got, e := Take(up, spoil(votes, l[:n], nil))
				if n <= 10 && (got != p || e != api.OK) || n > 10 && (got != 0 || e != api.ErrMany) {
					t.Errorf("Take of %d other votes from %d on = %#x, %d", n, l[0], got, e)
				}
			}
		}
		for _, c := range [][2][]int{{{0}, {126}}, {{126}, {0}}, {{0, 126}, nil}, {nil, {0, 126}}} {
			if got, e := Take(up, spoil(votes, c[0], c[1])); got != p || e != api.OK {
				t.Errorf("Take of other votes at %v and holes at %v = %#x, %d", c[0], c[1], got, e)
			}
		}
	}
}

// 7.2: of votes with more than twenty places of none nothing is near, though all others say the word.
func TestTakeOfManyHoles(t *testing.T) {
	next := numbers(8)
	w, _ := Lay(nine, 77)
	for n := 21; n <= api.Code; n++ {
		if p, e := Take(nine, spoil(saying(w, 1), nil, pick(next, n))); p != 0 || e != api.ErrMany {
			t.Errorf("Take of %d holes = %#x, %d", n, p, e)
		}
	}
}

// 7.2: of votes that are near no codeword ErrMany.
func TestTakeOfNothingNear(t *testing.T) {
	next := numbers(9)
	w, _ := Lay(nine, most)
	for n := 11; n <= 40; n++ {
		if p, e := Take(nine, spoil(saying(w, 3), pick(next, n), nil)); p != 0 || e != api.ErrMany {
			t.Errorf("Take of %d other votes = %#x, %d", n, p, e)
		}
	}
	for range 200 {
		var votes [api.Code]int
		for i := range votes {
			votes[i] = int(next())
		}
		if p, e := Take(nine, votes); p != 0 || e != api.ErrMany {
			t.Errorf("Take of any votes = %#x, %d", p, e)
		}
	}
}

// 7.2: of votes that say a codeword whose number isn't its payload's ErrCheck, with or without other votes and holes; that of the number 0 has no bit, so all its votes are above 0.
func TestTakeOfAnotherNumber(t *testing.T) {
	next := numbers(10)
	for i := range 300 {
		k, p := some(next)
		for _, x := range []uint64{next(), 0, math.MaxUint64, numberOf(k, p) ^ 1<<(i%64)} {
			places := pick(next, 12)
			votes := saying(bch.Encode(x), 5)
			want, wantE := read(k, x)
			for _, v := range [][api.Code]int{votes, spoil(votes, places[:4], places[4:])} {
				if got, e := Take(k, v); got != want || e != wantE {
					t.Fatalf("Take of the number %#x = %#x, %d; want %#x, %d", x, got, e, want, wantE)
				}
			}
		}
	}
	if p, e := Take(up, saying(bch.Word{}, 1)); p != 0 || e != api.ErrCheck {
		t.Errorf("Take of votes above 0 = %#x, %d", p, e)
	}
}

// 7.2: what was laid under one key and is taken under another one: ErrCheck.
func TestTakeUnderAnotherKey(t *testing.T) {
	for _, c := range laid {
		w, _ := Lay(c.k, c.payload)
		for _, k := range []api.Key{zero, nine, up, full, {8}, {15: 1}} {
			p, e := Take(k, saying(w, 1))
			if k == c.k && (p != c.payload || e != api.OK) || k != c.k && (p != 0 || e != api.ErrCheck) {
				t.Errorf("Take of %#x under another key = %#x, %d", c.payload, p, e)
			}
		}
	}
}

// Rule 6: the same votes are taken the same way again, whatever was taken between.
func TestTakeAgain(t *testing.T) {
	next := numbers(11)
	w, _ := Lay(up, 12345)
	places := pick(next, 14)
	good, bad := spoil(saying(w, 1), places[:3], places[3:]), spoil(saying(w, 1), places, nil)
	for range 5 {
		if p, e := Take(up, good); p != 12345 || e != api.OK {
			t.Errorf("Take = %d, %d", p, e)
		}
		if p, e := Take(up, bad); p != 0 || e != api.ErrMany {
			t.Errorf("Take = %d, %d", p, e)
		}
	}
}
