package trig

import (
	"math"
	"testing"
)

const (
	unit  = 1073741824 // 2^30
	whole = 512        // where angles go round
)

// parts are the angles of one bit, from the greatest on, worked out by another program.
var parts = []struct{ k, x, y int }{
	{64, 759250124, 759250124},
	{32, 992008094, 410903207},
	{16, 1053110175, 209476638},
	{8, 1068571463, 105245105},
	{4, 1072448454, 52686017},
	{2, 1073418432, 26350953},
	{1, 1073660972, 13176485},
}

// turned are angles, their cosines and sines, worked out by another program.
var turned = []struct{ k, x, y int }{
	{0, 1073741824, 0},
	{1, 1073660972, 13176485},
	{2, 1073418432, 26350953},
	{3, 1073014237, 39521485},
	{4, 1072448454, 52686017},
	{5, 1071721160, 65842663},
	{7, 1069782516, 92124196},
	{8, 1068571463, 105245105},
	{16, 1053110175, 209476638},
	{21, 1038283071, 273659941},
	{32, 992008094, 410903207},
	{42, 934248785, 529245414},
	{43, 927683771, 540670250},
	{63, 768510093, 749875810},
	{64, 759250124, 759250124},
	{65, 749875771, 768510135},
	{85, 540670200, 927683799},
	{96, 410903206, 992008093},
	{100, 361732722, 1010975241},
	{126, 26350929, 1073418428},
	{127, 13176428, 1073660967},
	{128, 0, 1073741824},
	{129, -13176485, 1073660972},
	{191, -749875810, 768510093},
	{192, -759250124, 759250124},
	{255, -1073660967, 13176428},
	{256, -1073741824, 0},
	{257, -1073660972, -13176485},
	{300, -920979078, -552013622},
	{383, -13176428, -1073660967},
	{384, 0, -1073741824},
	{385, 13176485, -1073660972},
	{447, 749875810, -768510093},
	{448, 759250124, -759250124},
	{511, 1073660967, -13176428},
	{512, 1073741824, 0},
	{513, 1073660972, 13176485},
	{640, 0, 1073741824},
	{-1, 1073660967, -13176428},
	{-2, 1073418428, -26350929},
	{-64, 759250124, -759250124},
	{-127, 13176485, -1073660972},
	{-128, 0, -1073741824},
	{-129, -13176428, -1073660967},
	{-255, -1073660972, -13176485},
	{-256, -1073741824, 0},
	{-257, -1073660967, 13176428},
	{-384, 0, 1073741824},
	{-511, 1073660972, 13176485},
	{-512, 1073741824, 0},
	{-513, 1073660967, -13176428},
	{1 << 40, 1073741824, 0},
	{1<<40 + 77, 628995637, 870221803},
	{-1<<40 + 77, 628995637, 870221803},
	{-1<<40 - 77, 628995684, -870221770},
	{math.MaxInt, 1073660967, -13176428},
	{math.MaxInt - 1, 1073418428, -26350929},
	{math.MaxInt - 127, 0, -1073741824},
	{math.MaxInt - 200, -838310192, -670937790},
	{math.MinInt, 1073741824, 0},
	{math.MinInt + 1, 1073660972, 13176485},
	{math.MinInt + 300, -920979078, -552013622},
}

// numbers answers a source of words that is the same in each run.
func numbers(seed uint64) func() uint64 {
	return func() uint64 {
		seed += 0x9e3779b97f4a7c15
		z := (seed ^ seed>>30) * 0xbf58476d1ce4e5b9
		z = (z ^ z>>27) * 0x94d049bb133111eb
		return z ^ z>>31
	}
}

// floor answers a quotient by 2^30, rounded down, without a shift.
func floor(n int) int {
	q := n / unit
	if n%unit < 0 {
		q--
	}
	return q
}

// wholeRoot answers a root's whole part by halving what it may be.
func wholeRoot(n int) int {
	low, high := 0, 1<<31 // the root is low at least, and below high
	for high-low > 1 {
		m := (low + high) / 2
		if m*m <= n {
			low = m
		} else {
			high = m
		}
	}
	return low
}

// byHand answers an angle's cosine and sine by the chapter's rule, going round right angle by right angle.
func byHand(k int) (int, int) {
	k %= whole
	if k < 0 {
		k += whole
	}
	if k >= 128 {
		x, y := byHand(k - 128)
		return -y, x
	}
	x, y, h := unit, 0, 0
	for a := 64; a >= 1; a /= 2 {
		c, s := wholeRoot((unit+h)*(unit/2)), wholeRoot((unit-h)*(unit/2))
		h = c
		if k/a%2 == 1 {
			x, y = floor(x*c-y*s+unit/2), floor(x*s+y*c+unit/2)
		}
	}
	return x, y
}

// apart answers how far a number is from another one.
func apart(a, b int) int { return max(a-b, b-a) }

// edges are angles about each right one, about 0 and about the ends of an int.
func edges() []int {
	var l []int
	for k := -2*whole - 3; k <= 3*whole+3; k++ {
		l = append(l, k)
	}
	for d := range 2 * whole {
		l = append(l, math.MinInt+d, math.MaxInt-d, 1<<31+d, -1<<31-d, 1<<32-d, 1<<62-d, -1<<62+d)
	}
	return l
}

// 8.1: Root of what the document and the issue name, and of numbers below 0.
func TestRootOfGiven(t *testing.T) {
	for _, c := range []struct{ n, want int }{
		{0, 0}, {1, 1}, {2, 1}, {3, 1}, {4, 2}, {5, 2}, {8, 2}, {9, 3}, {15, 3}, {16, 4}, {99, 9}, {100, 10},
		{1 << 59, 759250124}, {1 << 60, 1 << 30}, {1<<60 - 1, 1<<30 - 1}, {1<<60 + 1, 1 << 30},
		{1<<62 - 1, 1<<31 - 1}, {1 << 62, 1 << 31}, {1<<62 + 1, 1 << 31},
		{math.MaxInt, 3037000499}, {3037000499 * 3037000499, 3037000499}, {3037000499*3037000499 - 1, 3037000498},
		{-1, 0}, {-2, 0}, {-4, 0}, {-1 << 60, 0}, {-math.MaxInt, 0}, {math.MinInt, 0}, {math.MinInt + 1, 0},
	} {
		if r := Root(c.n); r != c.want {
			t.Errorf("Root(%d) = %d, not %d", c.n, r, c.want)
		}
	}
}

// 8.1: Root of squares, of one below and of one above them.
func TestRootOfSquares(t *testing.T) {
	l := []int{3037000499, 3037000498, 1 << 31, 1<<31 - 1, 1<<31 + 1}
	for r := range 5000 {
		l = append(l, r+1)
	}
	next := numbers(1)
	for range 5000 {
		l = append(l, int(next()%3037000499)+1, int(next()>>40)+1, 1<<(next()%32), 1<<(next()%31)+1)
	}
	for _, r := range l {
		if a, b, c := Root(r*r-1), Root(r*r), Root(r*r+1); a != r-1 || b != r || c != r {
			t.Errorf("about %d times itself: %d, %d, %d", r, a, b, c)
		}
	}
}

// 8.1: Root's square is no more than the number, and the next one's is more.
func TestRootIsWhole(t *testing.T) {
	next := numbers(2)
	for range 100000 {
		n := int(next() >> (1 + next()%63))
		r := uint64(Root(n))
		if r > 3037000499 || r*r > uint64(n) || (r+1)*(r+1) <= uint64(n) {
			t.Fatalf("Root(%d) = %d", n, r)
		}
		if below := Root(^n); below != 0 {
			t.Fatalf("Root(%d) = %d", ^n, below)
		}
	}
}

// 8.1: the halves: the angles of one bit, by the chapter's rule, root by root.
func TestTurnOfHalves(t *testing.T) {
	h := 0
	for _, c := range parts {
		x, y := Turn(c.k)
		if x != c.x || y != c.y {
			t.Errorf("Turn(%d) = %d, %d, not %d, %d", c.k, x, y, c.x, c.y)
		}
		if n := (unit + h) * (unit / 2); x*x > n || (x+1)*(x+1) <= n {
			t.Errorf("the cosine of %d is no root: %d", c.k, x)
		}
		if n := (unit - h) * (unit / 2); y*y > n || (y+1)*(y+1) <= n {
			t.Errorf("the sine of %d is no root: %d", c.k, y)
		}
		h = x
	}
}

// 8.1: Turn of angles worked out by another program: the chapter's examples, about right angles, below 0, and far ones.
func TestTurnOfGiven(t *testing.T) {
	for _, c := range turned {
		if x, y := Turn(c.k); x != c.x || y != c.y {
			t.Errorf("Turn(%d) = %d, %d, not %d, %d", c.k, x, y, c.x, c.y)
		}
	}
}

// 8.1: Turn of angles by the chapter's rule, done by hand.
func TestTurnByHand(t *testing.T) {
	l := edges()
	next := numbers(3)
	for range 2000 {
		l = append(l, int(next()))
	}
	for _, k := range l {
		wx, wy := byHand(k)
		if x, y := Turn(k); x != wx || y != wy {
			t.Fatalf("Turn(%d) = %d, %d, not %d, %d", k, x, y, wx, wy)
		}
	}
}

// 8.1: behind each right angle x and y become -y and x.
func TestTurnByRightAngles(t *testing.T) {
	for _, k := range edges() {
		x, y := Turn(k)
		if k > math.MaxInt-whole {
			continue
		}
		if a, b := Turn(k + 128); a != -y || b != x {
			t.Fatalf("Turn(%d) = %d, %d, but %d, %d a right angle behind", k, x, y, a, b)
		}
		if a, b := Turn(k + whole); a != x || b != y {
			t.Fatalf("Turn(%d) = %d, %d, but %d, %d once round", k, x, y, a, b)
		}
	}
}

// 8.1: Cos and Sin are what Turn answers.
func TestCosAndSin(t *testing.T) {
	for _, k := range edges() {
		if x, y := Turn(k); Cos(k) != x || Sin(k) != y {
			t.Fatalf("angle %d: %d, %d, but Turn %d, %d", k, Cos(k), Sin(k), x, y)
		}
	}
	for _, c := range turned {
		if x, y := Cos(c.k), Sin(c.k); x != c.x || y != c.y {
			t.Errorf("angle %d: %d, %d, not %d, %d", c.k, x, y, c.x, c.y)
		}
	}
}

// 8.1: Table has both of 0 to 127, as Turn answers them, and by hand.
func TestTable(t *testing.T) {
	l := Table()
	for k := range 128 {
		x, y := Turn(k)
		wx, wy := byHand(k)
		if l[k] != [2]int{x, y} || l[k] != [2]int{wx, wy} {
			t.Errorf("Table()[%d] = %d, but Turn %d, %d, by hand %d, %d", k, l[k], x, y, wx, wy)
		}
	}
}

// 8.1: what was done to a table that was handed out changes nothing (rules 4 and 6).
func TestTableIsNew(t *testing.T) {
	first := Table()
	l := Table()
	for k := range l {
		l[k] = [2]int{k, -k}
	}
	if Table() != first {
		t.Errorf("Table() is another one")
	}
	for k, p := range first {
		if x, y := Turn(k); x != p[0] || y != p[1] {
			t.Errorf("Turn(%d) = %d, %d, but the table had %d", k, x, y, p)
		}
	}
}

// 8.2: from 0 to 128 cosines fall, and sines rise.
func TestFallAndRise(t *testing.T) {
	for k := range 128 {
		if a, b := Cos(k), Cos(k+1); a <= b {
			t.Errorf("the cosines of %d and the next: %d, %d", k, a, b)
		}
		if a, b := Sin(k), Sin(k+1); a >= b {
			t.Errorf("the sines of %d and the next: %d, %d", k, a, b)
		}
	}
}

// 8.2: the cosine of k is the sine of 128 - k, but for 2048.
func TestOtherSide(t *testing.T) {
	for k := -whole; k <= whole; k++ {
		if a, b := Cos(k), Sin(128-k); apart(a, b) > 2048 {
			t.Errorf("the cosine of %d is %d, the other sine %d", k, a, b)
		}
	}
}

// 8.2: the squares' sum is 2^60, but for 2^42.
func TestSquares(t *testing.T) {
	for _, k := range edges() {
		x, y := Turn(k)
		if n := x*x + y*y; apart(n, 1<<60) > 1<<42 {
			t.Fatalf("Turn(%d) = %d, %d: the squares' sum is %d", k, x, y, n)
		}
	}
}

// 8.2: a turn by 256 makes both their negatives.
func TestNegatives(t *testing.T) {
	for _, k := range edges() {
		if k > math.MaxInt-256 {
			continue
		}
		x, y := Turn(k)
		if a, b := Turn(k + 256); a != -x || b != -y {
			t.Fatalf("Turn(%d) = %d, %d, but %d, %d by 256 more", k, x, y, a, b)
		}
	}
}
