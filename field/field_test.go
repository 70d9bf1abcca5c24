package field

import (
	"math"
	"slices"
	"testing"
)

// farCounts are counts at the edges of 0 and 127, and far from them, with their rests by 127.
var farCounts = []struct{ n, rest int }{
	{0, 0},
	{1, 1},
	{2, 2},
	{63, 63},
	{64, 64},
	{125, 125},
	{126, 126},
	{127, 0},
	{128, 1},
	{253, 126},
	{254, 0},
	{255, 1},
	{-1, 126},
	{-2, 125},
	{-126, 1},
	{-127, 0},
	{-128, 126},
	{-254, 0},
	{-255, 126},
	{1 << 40, 32}, // 2^7 leaves 1
	{-1 << 40, 95},
	{math.MaxInt - 1, 126},
	{math.MaxInt, 0},
	{math.MinInt, 126},
	{math.MinInt + 1, 0},
}

// farNumbers are numbers that aren't elements, with the elements that they stand for.
var farNumbers = []struct{ x, element int }{
	{128, 0},
	{129, 1},
	{137, 9},
	{255, 127},
	{256, 0},
	{1<<40 + 5, 5},
	{math.MaxInt, 127},
	{math.MaxInt - 1, 126},
	{-1, 127},
	{-2, 126},
	{-127, 1},
	{-128, 0},
	{-129, 127},
	{-256, 0},
	{-1<<40 - 1, 127},
	{math.MinInt, 0},
	{math.MinInt + 1, 1},
}

// product answers a product by hand: the polynomials' one, then its rest by x^7 + x^3 + 1, without any table.
func product(a, b int) int {
	p := 0
	for i := range 7 {
		if b>>i&1 == 1 {
			p ^= a << i
		}
	}
	for i := 13; i >= 7; i-- {
		if p>>i&1 == 1 {
			p ^= 137 << (i - 7)
		}
	}
	return p
}

// times answers the product of that many of a, by hand.
func times(a, n int) int {
	p := 1
	for range n {
		p = product(p, a)
	}
	return p
}

// numbers answers a source of words that is the same in each run.
func numbers(seed uint64) func() uint64 {
	return func() uint64 {
		seed += 0x9e3779b97f4a7c15
		z := (seed ^ seed>>30) * 0xbf58476d1ce4e5b9
		z = (z ^ z>>27) * 0x94d049bb133111eb
		return z ^ z>>31
	}
}

// 4.1: the chapter's example, and others worked out on paper.
func TestMul(t *testing.T) {
	f := New()
	for _, c := range [][3]int{
		{64, 2, 9},
		{2, 64, 9},
		{2, 2, 4},
		{3, 3, 5},
		{8, 16, 9},
		{64, 4, 18},
		{32, 32, 72},
		{64, 64, 50},
		{2, 68, 1},
		{127, 2, 119},
		{0, 0, 0},
		{0, 127, 0},
		{127, 0, 0},
		{1, 0, 0},
		{1, 1, 1},
		{1, 127, 127},
		{127, 1, 127},
	} {
		if x := f.Mul(c[0], c[1]); x != c[2] {
			t.Errorf("Mul(%d, %d) = %d, want %d", c[0], c[1], x, c[2])
		}
	}
}

// 4.1: all products of two elements.
func TestMulAll(t *testing.T) {
	f := New()
	for a := range 128 {
		for b := range 128 {
			if x, want := f.Mul(a, b), product(a, b); x != want {
				t.Fatalf("Mul(%d, %d) = %d, want %d", a, b, x, want)
			}
		}
	}
}

// 4.1: an inverse makes 1 with its element; that of 0 is 0.
func TestInv(t *testing.T) {
	f := New()
	for _, c := range [][2]int{{0, 0}, {1, 1}, {2, 68}, {68, 2}, {4, 34}} {
		if x := f.Inv(c[0]); x != c[1] {
			t.Errorf("Inv(%d) = %d, want %d", c[0], x, c[1])
		}
	}
	for a := 1; a < 128; a++ {
		if x := f.Inv(a); x < 1 || x > 127 || product(a, x) != 1 {
			t.Errorf("Inv(%d) = %d, which makes no 1 with it", a, x)
		}
	}
}

// 4.1: powers of each element for counts about 0 and 127, below 0 those of the inverse.
func TestPow(t *testing.T) {
	f := New()
	for a := range 128 {
		up, down := 1, 1
		for n := range 400 {
			if x := f.Pow(a, n); x != up {
				t.Fatalf("Pow(%d, %d) = %d, want %d", a, n, x, up)
			}
			if x := f.Pow(a, -n); x != down {
				t.Fatalf("Pow(%d, %d) = %d, want %d", a, -n, x, down)
			}
			up, down = product(up, a), product(down, f.Inv(a))
		}
	}
}

// 4.1: powers of counts far from 0, at the ends of the numbers, too: of 127 of them an element makes 1.
func TestPowFar(t *testing.T) {
	f := New()
	for _, c := range farCounts {
		for a := 1; a < 128; a++ {
			if x, want := f.Pow(a, c.n), times(a, c.rest); x != want {
				t.Fatalf("Pow(%d, %d) = %d, want %d", a, c.n, x, want)
			}
		}
	}
}

// 4.1: of 0: 1 for no count, else 0, though a count's rest by 127 is 0.
func TestPowOfZero(t *testing.T) {
	f := New()
	for _, a := range []int{0, 128, -128, 1 << 20, math.MinInt} {
		for _, c := range farCounts {
			want := 0
			if c.n == 0 {
				want = 1
			}
			if x := f.Pow(a, c.n); x != want {
				t.Errorf("Pow(%d, %d) = %d, want %d", a, c.n, x, want)
			}
		}
	}
}

// 4.1: powers of 2, of counts about 0 and 127, and far from them.
func TestExp(t *testing.T) {
	f := New()
	for _, c := range [][2]int{{0, 1}, {1, 2}, {6, 64}, {7, 9}, {13, 100}, {14, 65}, {-1, 68}, {-2, 34}, {126, 68}, {127, 1}, {128, 2}, {-127, 1}} {
		if x := f.Exp(c[0]); x != c[1] {
			t.Errorf("Exp(%d) = %d, want %d", c[0], x, c[1])
		}
	}
	for n := range 127 {
		for _, far := range []int{n, n + 127, n + 254, n - 127, n - 254, n + 127<<20, n - 127<<20} {
			if x, want := f.Exp(far), times(2, n); x != want {
				t.Fatalf("Exp(%d) = %d, want %d", far, x, want)
			}
		}
	}
	for _, c := range farCounts {
		if x, want := f.Exp(c.n), times(2, c.rest); x != want {
			t.Errorf("Exp(%d) = %d, want %d", c.n, x, want)
		}
	}
}

// 4.1: a log is from 0 to 126, and which power its element is; 0 has none.
func TestLog(t *testing.T) {
	f := New()
	for _, c := range [][2]int{{0, -1}, {1, 0}, {2, 1}, {64, 6}, {9, 7}, {68, 126}, {34, 125}} {
		if x := f.Log(c[0]); x != c[1] {
			t.Errorf("Log(%d) = %d, want %d", c[0], x, c[1])
		}
	}
	for a := 1; a < 128; a++ {
		if n := f.Log(a); n < 0 || n > 126 || times(2, n) != a {
			t.Errorf("Log(%d) = %d, which isn't its power", a, n)
		}
	}
	for n := range 127 {
		if x := f.Log(times(2, n)); x != n {
			t.Errorf("Log of the power %d = %d", n, x)
		}
	}
}

// 4.1: polynomials of no number, of one, and of more; the first number is the one without x.
func TestEval(t *testing.T) {
	f := New()
	for _, c := range []struct {
		p       []int
		x, want int
	}{
		{nil, 0, 0},
		{nil, 5, 0},
		{[]int{}, 127, 0},
		{[]int{0}, 7, 0},
		{[]int{77}, 0, 77},
		{[]int{77}, 1, 77},
		{[]int{77}, 127, 77},
		{[]int{0, 1}, 77, 77},
		{[]int{0, 1}, 0, 0},
		{[]int{5, 3}, 0, 5},
		{[]int{5, 3}, 1, 6},
		{[]int{5, 3}, 2, 3},
		{[]int{5, 3}, 64, 5 ^ 64 ^ 9},
		{[]int{0, 0, 1}, 3, 5},
		{[]int{0, 0, 0, 0, 0, 0, 0, 1}, 2, 9},
		{[]int{1, 0, 0, 1, 0, 0, 0, 1}, 2, 0},
		{[]int{1, 0, 0, 1, 0, 0, 0, 1}, 1, 1},
		{[]int{1, 2, 4, 8}, 1, 15},
		{[]int{4, 2, 1, 0, 0, 0}, 0, 4},
	} {
		if x := f.Eval(c.p, c.x); x != c.want {
			t.Errorf("Eval(%v, %d) = %d, want %d", c.p, c.x, x, c.want)
		}
	}
}

// evaluate answers what a polynomial is at an element, by hand.
func evaluate(p []int, x int) int {
	sum := 0
	for i, c := range p {
		sum ^= product(c, times(x, i%127)) // of 0 the power 127 isn't asked for: see its caller
	}
	return sum
}

// 4.1: polynomials of many numbers, at each element, longer than the powers of 2 are many.
func TestEvalMany(t *testing.T) {
	f := New()
	next := numbers(1)
	for _, n := range []int{1, 2, 3, 20, 126, 127, 128, 129, 300} {
		p := make([]int, n)
		for i := range p {
			p[i] = int(next() % 128)
		}
		if y := f.Eval(p, 0); y != p[0] {
			t.Fatalf("Eval of %d numbers at 0 = %d, want %d", n, y, p[0])
		}
		for x := 1; x < 128; x++ {
			if y, want := f.Eval(p, x), evaluate(p, x); y != want {
				t.Fatalf("Eval of %d numbers at %d = %d, want %d", n, x, y, want)
			}
		}
	}
}

// 4.1: each number is taken for its element, by all calls that are handed elements.
func TestRests(t *testing.T) {
	f := New()
	for _, c := range farNumbers {
		x, e := c.x, c.element
		if f.Log(x) != f.Log(e) || f.Inv(x) != f.Inv(e) {
			t.Errorf("of %d: Log %d, Inv %d; of %d: %d, %d", x, f.Log(x), f.Inv(x), e, f.Log(e), f.Inv(e))
		}
		for _, n := range []int{0, 1, 2, 126, 127, -1, -126, -127, math.MaxInt, math.MinInt} {
			if f.Pow(x, n) != f.Pow(e, n) {
				t.Errorf("Pow(%d, %d) = %d, of %d: %d", x, n, f.Pow(x, n), e, f.Pow(e, n))
			}
		}
		for b := range 128 {
			want := product(e, b)
			if f.Mul(x, b) != want || f.Mul(b, x) != want {
				t.Fatalf("Mul(%d, %d) = %d, and turned about %d, want %d", x, b, f.Mul(x, b), f.Mul(b, x), want)
			}
			if y := f.Eval([]int{x}, b); y != e {
				t.Fatalf("Eval([%d], %d) = %d, want %d", x, b, y, e)
			}
			if y, want := f.Eval([]int{b, x, 1}, b), b^product(e, b)^product(b, b); y != want {
				t.Fatalf("Eval([%d %d 1], %d) = %d, want %d", b, x, b, y, want)
			}
			if y, want := f.Eval([]int{3, b}, x), 3^product(b, e); y != want {
				t.Fatalf("Eval([3 %d], %d) = %d, want %d", b, x, y, want)
			}
		}
		for _, d := range farNumbers {
			if y, want := f.Mul(x, d.x), product(e, d.element); y != want {
				t.Errorf("Mul(%d, %d) = %d, want %d", x, d.x, y, want)
			}
		}
	}
}

// 4.1: a nil field answers 0 at each call, but -1 as each log.
func TestNilField(t *testing.T) {
	var f *Field
	l := []int{0, 1, 2, 64, 126, 127, 128, -1, -127, math.MaxInt, math.MinInt}
	for _, a := range l {
		if f.Inv(a) != 0 || f.Exp(a) != 0 || f.Log(a) != -1 {
			t.Errorf("of %d: Inv %d, Exp %d, Log %d; want 0, 0, -1", a, f.Inv(a), f.Exp(a), f.Log(a))
		}
		for _, b := range l {
			if f.Mul(a, b) != 0 || f.Pow(a, b) != 0 {
				t.Errorf("of %d, %d: Mul %d, Pow %d; want 0, 0", a, b, f.Mul(a, b), f.Pow(a, b))
			}
			if f.Eval(nil, a) != 0 || f.Eval([]int{a}, b) != 0 || f.Eval([]int{1, a, b}, b) != 0 {
				t.Errorf("Eval of a nil field of %d, %d isn't 0", a, b)
			}
		}
	}
}

// 4.2: products are turned about, kept apart by brackets, and spread over sums; all of three elements.
func TestProductsAsUsual(t *testing.T) {
	f := New()
	for a := range 128 {
		for b := range 128 {
			ab := f.Mul(a, b)
			if ab != f.Mul(b, a) {
				t.Fatalf("%d times %d, turned about, is another one", a, b)
			}
			for c := range 128 {
				if f.Mul(ab, c) != f.Mul(a, f.Mul(b, c)) {
					t.Fatalf("%d times %d times %d hangs on brackets", a, b, c)
				}
				if f.Mul(a, b^c) != ab^f.Mul(a, c) {
					t.Fatalf("%d times the sum of %d and %d isn't the products' sum", a, b, c)
				}
			}
		}
	}
}

// 4.2: what isn't 0 has one inverse; 0 makes no 1 with anything, and 1 changes nothing.
func TestOneInverse(t *testing.T) {
	f := New()
	met := map[int]int{}
	for a := range 128 {
		var inverses []int
		for b := range 128 {
			if f.Mul(a, b) == 1 {
				inverses = append(inverses, b)
			}
		}
		want := []int{f.Inv(a)}
		if a == 0 {
			want = nil
		}
		if !slices.Equal(inverses, want) {
			t.Errorf("%d makes 1 with %v, want %v", a, inverses, want)
		}
		if f.Mul(a, 0) != 0 || f.Mul(a, 1) != a || f.Inv(f.Inv(a)) != a {
			t.Errorf("%d times 0, times 1, or inverted twice is wrong", a)
		}
		met[f.Inv(a)]++
	}
	if len(met) != 128 {
		t.Errorf("%d inverses, want 128", len(met))
	}
}

// 4.2: powers of one sum are products, at counts of both signs; Exp and Log undo one another.
func TestPowersAsUsual(t *testing.T) {
	f := New()
	for a := 1; a < 128; a++ {
		for n := -130; n <= 130; n++ {
			if f.Mul(f.Pow(a, n), f.Pow(a, -n)) != 1 {
				t.Fatalf("the powers %d and %d of %d make no 1", n, -n, a)
			}
			if f.Mul(f.Pow(a, n), a) != f.Pow(a, n+1) {
				t.Fatalf("the power %d of %d and one more aren't the next", n, a)
			}
		}
		if f.Exp(f.Log(a)) != a {
			t.Errorf("Exp(Log(%d)) = %d", a, f.Exp(f.Log(a)))
		}
	}
}

// Rule 4: a polynomial isn't changed, spare room included, nor kept.
func TestEvalLeavesItsList(t *testing.T) {
	f := New()
	room := []int{130, -1, 5, 1000, -1000}
	want := slices.Clone(room)
	first := f.Eval(room[:3], 6)
	if !slices.Equal(room, want) {
		t.Fatalf("Eval changed its list: %v, want %v", room, want)
	}
	room[0], room[1] = 9, 9
	if f.Eval(want[:3], 6) != first {
		t.Errorf("Eval of the same list answers another number")
	}
}

// Rule 6: fields are alike, whatever they have been through.
func TestFieldsAreAlike(t *testing.T) {
	f, g := New(), New()
	if f == nil || f == g {
		t.Fatal("New answers no new field")
	}
	for n := -300; n < 300; n++ {
		f.Mul(n, n+1)
		f.Inv(n)
		f.Pow(n, n)
		f.Exp(n)
		f.Log(n)
		f.Eval([]int{n, n + 1, n + 2}, n)
	}
	if *f != *g || *f != *New() {
		t.Errorf("a field isn't what it was made as")
	}
}
