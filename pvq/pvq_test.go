package pvq

import (
	"math"
	"slices"
	"testing"

	"belfry/api"
)

const (
	numbersMost = 8  // how many numbers a vector has at most
	pulsesMost  = 12 // how many pulses it has at most
)

// counted are the counts of each number of numbers and of pulses, worked out by another program.
var counted = [numbersMost + 1][pulsesMost + 1]int{
	{1, 0, 0, 0, 0, 0, 0, 0, 0, 0, 0, 0, 0},
	{1, 2, 2, 2, 2, 2, 2, 2, 2, 2, 2, 2, 2},
	{1, 4, 8, 12, 16, 20, 24, 28, 32, 36, 40, 44, 48},
	{1, 6, 18, 38, 66, 102, 146, 198, 258, 326, 402, 486, 578},
	{1, 8, 32, 88, 192, 360, 608, 952, 1408, 1992, 2720, 3608, 4672},
	{1, 10, 50, 170, 450, 1002, 1970, 3530, 5890, 9290, 14002, 20330, 28610},
	{1, 12, 72, 292, 912, 2364, 5336, 10836, 20256, 35436, 58728, 93060, 142000},
	{1, 14, 98, 462, 1666, 4942, 12642, 28814, 59906, 115598, 209762, 361550, 596610},
	{1, 16, 128, 688, 2816, 9424, 27008, 68464, 157184, 332688, 658048, 1229360, 2187520},
}

// fewBits are the bits that numbers of vectors of 4 fit into, by their pulses, worked out by another program.
var fewBits = [pulsesMost + 1]int{0, 3, 5, 7, 8, 9, 10, 10, 11, 11, 12, 12, 13}

// numbered are vectors and their numbers, worked out by another program that put all of them in order.
var numbered = []struct {
	i int
	y []int
}{
	{0, nil}, {0, []int{0}}, {0, []int{0, 0, 0, 0}}, {0, []int{0, 0, 0, 0, 0, 0, 0, 0}},
	{0, []int{5}}, {1, []int{-5}}, {0, []int{12}}, {1, []int{-12}},
	{0, []int{0, 3}}, {2, []int{1, 2}}, {3, []int{1, -2}}, {4, []int{-1, 2}}, {9, []int{-2, -1}}, {11, []int{-3, 0}},
	{0, []int{0, 0, 2}}, {1, []int{0, 0, -2}}, {4, []int{0, -1, 1}}, {5, []int{0, -1, -1}}, {7, []int{0, -2, 0}}, {8, []int{1, 0, 1}}, {17, []int{-2, 0, 0}},
	{0, []int{0, 0, 0, 1}}, {1, []int{0, 0, 0, -1}}, {2, []int{0, 0, 1, 0}}, {3, []int{0, 0, -1, 0}},
	{4, []int{0, 1, 0, 0}}, {5, []int{0, -1, 0, 0}}, {6, []int{1, 0, 0, 0}}, {7, []int{-1, 0, 0, 0}},
	{0, []int{0, 0, 0, 3}}, {3, []int{0, 0, 1, -2}}, {16, []int{0, 1, -1, 1}}, {37, []int{0, -3, 0, 0}}, {55, []int{1, -2, 0, 0}}, {87, []int{-3, 0, 0, 0}},
	{0, []int{0, 0, 0, 12}}, {118, []int{0, -1, 7, 4}}, {695, []int{1, -1, -8, -2}}, {1201, []int{-1, 2, -3, -6}}, {2149, []int{-2, 3, -5, -2}},
	{2259, []int{-2, -5, 2, -3}}, {3577, []int{5, -1, 1, -5}}, {3695, []int{5, 5, 0, -2}}, {4671, []int{-12, 0, 0, 0}},
	{0, []int{0, 0, 0, 0, 7}}, {571, []int{0, 2, 3, -1, -1}}, {1051, []int{1, 0, 3, 1, -2}}, {1457, []int{1, 3, -1, 1, -1}}, {3251, []int{-3, -2, 1, -1, 0}}, {3529, []int{-7, 0, 0, 0, 0}},
	{0, []int{0, 0, 0, 0, 0, 5}}, {958, []int{0, -3, 0, 0, 2, 0}}, {1993, []int{2, 1, 0, 0, 1, -1}}, {2251, []int{3, 0, 0, 1, 0, -1}}, {2310, []int{-3, 0, 1, 0, 0, 1}}, {2363, []int{-5, 0, 0, 0, 0, 0}},
	{0, []int{0, 0, 0, 0, 0, 0, 9}}, {47736, []int{1, -1, -2, -4, 0, 0, 1}}, {56305, []int{-1, 0, 0, -1, 4, -2, -1}}, {56337, []int{-1, 0, 0, -1, 6, 0, -1}},
	{83708, []int{2, 2, 0, -2, 1, 2, 0}}, {87913, []int{-2, 0, 1, 1, 1, 3, -1}}, {115597, []int{-9, 0, 0, 0, 0, 0, 0}},
	{0, []int{0, 0, 0, 0, 0, 0, 0, 4}}, {480, []int{0, 0, 1, 0, 0, 2, 1, 0}}, {1285, []int{0, -1, 0, 0, -2, 0, 0, -1}},
	{1417, []int{0, -1, 1, -1, 0, 0, -1, 0}}, {2683, []int{2, -1, 0, -1, 0, 0, 0, 0}}, {2815, []int{-4, 0, 0, 0, 0, 0, 0, 0}},
	{0, []int{0, 0, 0, 0, 0, 0, 0, 12}}, {565617, []int{0, 5, -2, 0, -1, 1, 0, -3}}, {740855, []int{1, 1, -3, 4, 0, -1, 0, -2}},
	{752508, []int{1, -1, 0, 1, -3, 0, 2, 4}}, {849877, []int{1, -2, 0, 3, -5, 0, -1, 0}}, {1062466, []int{-1, 1, 0, -3, -3, 0, 4, 0}},
	{1102639, []int{-1, 1, -3, -6, -1, 0, 0, 0}}, {1230221, []int{-1, -2, -2, 1, -3, -3, 0, 0}}, {1494214, []int{2, 3, 1, 1, 2, -1, 0, 2}},
	{1556559, []int{-2, 0, -1, -1, 1, -3, -1, -3}}, {1847086, []int{3, -3, 3, 0, 0, -1, 1, 1}}, {1859754, []int{-3, 0, 0, 2, 0, -2, 5, 0}},
	{1880631, []int{-3, 0, -2, 1, 1, -5, 0, 0}}, {2187519, []int{-12, 0, 0, 0, 0, 0, 0, 0}},
}

// none are numbers that are none of n, nor of k: those next to the ends, and far ones.
func none(most int) []int {
	return []int{-1, most + 1, -2, most + 2, -most, 100, -100, 1 << 31, -1 << 31, 1 << 32, 1<<32 + 1, math.MaxInt, math.MinInt, math.MinInt + 1}
}

// walk hands each vector of n numbers with k pulses to a function, from the least first number to the greatest one; what is handed is one list that changes.
func walk(n, k int, each func(y []int)) {
	y := make([]int, n)
	var from func(at, left int)
	from = func(at, left int) {
		if at == n {
			if left == 0 {
				each(y)
			}
			return
		}
		for x := -left; x <= left; x++ {
			y[at] = x
			from(at+1, left-max(x, -x))
		}
	}
	from(0, k)
}

// rank answers a number's place in the order of numbers.
func rank(x int) int {
	if x > 0 {
		return 2*x - 1
	}
	return -2 * x
}

// byRank compares two vectors at the first place where they are unlike.
func byRank(a, b []int) int {
	for i := range a {
		if a[i] != b[i] {
			return rank(a[i]) - rank(b[i])
		}
	}
	return 0
}

// inOrder answers all vectors of n numbers with k pulses, put in the chapter's order by sorting.
func inOrder(n, k int) [][]int {
	var all [][]int
	walk(n, k, func(y []int) { all = append(all, slices.Clone(y)) })
	slices.SortFunc(all, byRank)
	return all
}

// numbers answers a source of words that is the same in each run.
func numbers(seed uint64) func() uint64 {
	return func() uint64 {
		seed += 0x9e3779b97f4a7c15
		z := (seed ^ seed>>30) * 0xbf58476d1ce4e5b9
		z = (z ^ z>>27) * 0x94d049bb133111eb
		return z ^ z>>31
	}
}

// scattered answers a vector of n numbers with k pulses, each pulse put anywhere, each number's sign either one.
func scattered(next func() uint64, n, k int) []int {
	y := make([]int, n)
	for range k {
		y[next()%uint64(n)]++
	}
	for i := range y {
		if next()%2 == 0 {
			y[i] = -y[i]
		}
	}
	return y
}

// numberOf answers a vector's number, which it must have.
func numberOf(t *testing.T, y []int) int {
	t.Helper()
	i, e := Index(y)
	if e != api.OK {
		t.Fatalf("Index(%d) = %d, %d", y, i, e)
	}
	return i
}

// vectorOf answers the vector of a number, which must be there.
func vectorOf(t *testing.T, n, k, i int) []int {
	t.Helper()
	y, e := Vector(n, k, i)
	if e != api.OK || len(y) != n {
		t.Fatalf("Vector(%d, %d, %d) = %d, %d", n, k, i, y, e)
	}
	return y
}

// noVector holds that there is no vector, for that reason, and that nothing is told beside it.
func noVector(t *testing.T, n, k, i int, want api.Errno) {
	t.Helper()
	if y, e := Vector(n, k, i); e != want || len(y) != 0 {
		t.Errorf("Vector(%d, %d, %d) = %d, %d, not %d", n, k, i, y, e, want)
	}
}

// noNumber holds that a vector has too many pulses, and no number.
func noNumber(t *testing.T, y []int) {
	t.Helper()
	if k := Pulses(y); k != pulsesMost+1 {
		t.Errorf("Pulses(%d) = %d", y, k)
	}
	if i, e := Index(y); e != api.ErrRange || i != 0 {
		t.Errorf("Index(%d) = %d, %d", y, i, e)
	}
}

// 13.1: each count is what another program worked out.
func TestCount(t *testing.T) {
	for n, row := range counted {
		for k, want := range row {
			if c := Count(n, k); c != want {
				t.Errorf("Count(%d, %d) = %d, not %d", n, k, c, want)
			}
		}
	}
}

// 13.1: each count is how many vectors there are, gone through one by one, and Pulses of each of them is k.
func TestCountOneByOne(t *testing.T) {
	for n := range numbersMost + 1 {
		for k := range pulsesMost + 1 {
			c := 0
			walk(n, k, func(y []int) {
				c++
				if p := Pulses(y); p != k {
					t.Fatalf("Pulses(%d) = %d, not %d", y, p, k)
				}
			})
			if got := Count(n, k); got != c {
				t.Errorf("Count(%d, %d) = %d, not %d", n, k, got, c)
			}
		}
	}
}

// 13.1: there are none of other numbers of numbers, or of pulses.
func TestCountBeyond(t *testing.T) {
	for _, n := range none(numbersMost) {
		for k := -1; k <= pulsesMost+1; k++ {
			if c := Count(n, k); c != 0 {
				t.Errorf("Count(%d, %d) = %d", n, k, c)
			}
		}
		for _, k := range none(pulsesMost) {
			if c := Count(n, k); c != 0 {
				t.Errorf("Count(%d, %d) = %d", n, k, c)
			}
		}
	}
	for _, k := range none(pulsesMost) {
		for n := -1; n <= numbersMost+1; n++ {
			if c := Count(n, k); c != 0 {
				t.Errorf("Count(%d, %d) = %d", n, k, c)
			}
		}
	}
}

// 13.1: Pulses is the sum of the numbers without their signs, up to 12.
func TestPulses(t *testing.T) {
	for _, x := range []struct {
		y    []int
		want int
	}{
		{nil, 0}, {[]int{}, 0}, {[]int{0}, 0}, {make([]int, 8), 0}, {[]int{1}, 1}, {[]int{-1}, 1}, {[]int{1, -1}, 2}, {[]int{-3, 0, 4}, 7},
		{[]int{12}, 12}, {[]int{-12}, 12}, {[]int{0, 12}, 12}, {[]int{-12, 0}, 12}, {[]int{6, -6}, 12}, {[]int{-11, -1}, 12}, {[]int{3, -3, 3, -3}, 12},
		{[]int{1, -1, 1, -1, 1, -1, 1, -1}, 8}, {[]int{-2, 2, -2, 2, 1, -1, 1, -1}, 12}, {[]int{0, 0, 0, 0, 0, 0, 0, -12}, 12},
	} {
		if k := Pulses(x.y); k != x.want {
			t.Errorf("Pulses(%d) = %d, not %d", x.y, k, x.want)
		}
	}
	next := numbers(1)
	for range 5000 {
		n, k := 1+int(next()%numbersMost), int(next()%(2*pulsesMost))
		y := scattered(next, n, k)
		if p := Pulses(y); p != min(k, pulsesMost+1) {
			t.Fatalf("Pulses(%d) = %d, not %d", y, p, k)
		}
	}
}

// 13.1: of more than 12 pulses, or of more than 8 numbers, whatever these are, Pulses is 13, and there is no number.
func TestTooManyPulses(t *testing.T) {
	for _, y := range [][]int{
		{13}, {-13}, {12, 1}, {1, 12}, {-12, 1}, {12, -1}, {7, -6}, {-7, -6}, {0, 0, 13, 0}, {12, -12}, {13, -13}, {2, 2, 2, 2, 2, 2, 1}, {2, -2, 2, -2, 2, -2, 2, -2},
		{0, 0, 0, 0, 0, 0, 0, 13}, {1, 1, 1, 1, 1, 1, 1, 6}, {14}, {25, -12}, {-25, 12}, {26, -13}, {1 << 32}, {-1 << 32}, {1 << 32, 1 << 32}, {1<<32 + 1, -1}, {1 << 62, 1 << 62, 1 << 62, 1 << 62},
		{math.MinInt}, {math.MaxInt}, {math.MinInt + 1}, {math.MaxInt, 1}, {math.MaxInt, math.MaxInt, 2}, {math.MaxInt, 2, math.MaxInt}, {2, math.MaxInt, math.MaxInt}, {math.MinInt, math.MinInt}, {math.MaxInt, math.MinInt}, {math.MinInt, math.MaxInt}, {math.MinInt, math.MaxInt, 1},
		{0, math.MinInt}, {math.MinInt, 0}, {12, math.MinInt}, {math.MinInt, 12}, {13, math.MinInt}, {math.MinInt, 13}, {1, math.MaxInt}, {-1, math.MinInt},
		slices.Repeat([]int{math.MinInt}, 8), slices.Repeat([]int{math.MaxInt}, 8), slices.Repeat([]int{math.MinInt}, 4), slices.Repeat([]int{math.MaxInt, math.MinInt}, 4),
		make([]int, 9), append(make([]int, 8), 1), append([]int{-1}, make([]int, 8)...), make([]int, 10), make([]int, 256), make([]int, 100000), slices.Repeat([]int{math.MinInt}, 9), {1, 1, 1, 1, 1, 1, 1, 1, 1},
	} {
		noNumber(t, y)
	}
}

// 13.1: the chapter's examples, and what another program put in order: of each vector its number, of the number the vector.
func TestGivenVectors(t *testing.T) {
	for _, x := range numbered {
		if i := numberOf(t, x.y); i != x.i {
			t.Errorf("Index(%d) = %d, not %d", x.y, i, x.i)
		}
		n, k := len(x.y), Pulses(x.y)
		if y := vectorOf(t, n, k, x.i); !slices.Equal(y, x.y) {
			t.Errorf("Vector(%d, %d, %d) = %d, not %d", n, k, x.i, y, x.y)
		}
	}
}

// 13.1, 13.3: sorted by the chapter's rule, done by hand, the vectors have the numbers from 0 to Count - 1, and each number is its vector's.
func TestInOrder(t *testing.T) {
	for n, row := range counted {
		for k, count := range row {
			if count > 30000 {
				continue
			}
			for i, want := range inOrder(n, k) {
				if got := numberOf(t, want); got != i {
					t.Fatalf("Index(%d) = %d, not %d", want, got, i)
				}
				if y := vectorOf(t, n, k, i); !slices.Equal(y, want) {
					t.Fatalf("Vector(%d, %d, %d) = %d, not %d", n, k, i, y, want)
				}
			}
		}
	}
}

// 13.1: of the first vector all pulses are the last number, above 0; of the last one they are the first number, below 0.
func TestFirstAndLast(t *testing.T) {
	for n := 1; n <= numbersMost; n++ {
		for k := 1; k <= pulsesMost; k++ {
			first, last := make([]int, n), make([]int, n)
			first[n-1], last[0] = k, -k
			if y := vectorOf(t, n, k, 0); !slices.Equal(y, first) || numberOf(t, first) != 0 {
				t.Errorf("Vector(%d, %d, 0) = %d", n, k, y)
			}
			if y := vectorOf(t, n, k, counted[n][k]-1); !slices.Equal(y, last) || numberOf(t, last) != counted[n][k]-1 {
				t.Errorf("Vector(%d, %d, %d) = %d", n, k, counted[n][k]-1, y)
			}
		}
	}
}

// 13.1: without pulses there is one vector, all numbers of which are 0; its number is 0.
func TestNoPulses(t *testing.T) {
	for n := range numbersMost + 1 {
		y := vectorOf(t, n, 0, 0)
		if !slices.Equal(y, make([]int, n)) || numberOf(t, y) != 0 {
			t.Errorf("Vector(%d, 0, 0) = %d", n, y)
		}
		noVector(t, n, 0, 1, api.ErrRange)
	}
}

// 13.1: of no numbers with pulses there is no vector, whatever its number.
func TestNoNumbers(t *testing.T) {
	for k := 1; k <= pulsesMost; k++ {
		for _, i := range []int{0, 1, -1, k, math.MaxInt, math.MinInt} {
			noVector(t, 0, k, i, api.ErrRange)
		}
	}
}

// 13.1: there is no vector of a number below 0, or of as many as there are and more.
func TestNumberBeyond(t *testing.T) {
	for n, row := range counted {
		for k, count := range row {
			for _, i := range []int{-1, count, count + 1, -count - 1, 2*count + 1, 1 << 32, -1 << 32, 1<<32 + count, math.MaxInt, math.MinInt, math.MinInt + 1} {
				noVector(t, n, k, i, api.ErrRange)
			}
		}
	}
}

// 13.1: there is no vector of other numbers of numbers, or of pulses, whatever its number: that is told ahead of a wrong number.
func TestVectorBeyond(t *testing.T) {
	of := []int{-1, 0, 1, 100, 1 << 32, math.MaxInt, math.MinInt}
	for _, i := range of {
		for _, n := range none(numbersMost) {
			for k := -1; k <= pulsesMost+1; k++ {
				noVector(t, n, k, i, api.ErrArg)
			}
			for _, k := range none(pulsesMost) {
				noVector(t, n, k, i, api.ErrArg)
			}
		}
		for _, k := range none(pulsesMost) {
			for n := -1; n <= numbersMost+1; n++ {
				noVector(t, n, k, i, api.ErrArg)
			}
		}
	}
}

// 13.2: so few bits as another program worked out, and none of other numbers of pulses.
func TestBits(t *testing.T) {
	for k, want := range fewBits {
		if b := Bits(k); b != want {
			t.Errorf("Bits(%d) = %d, not %d", k, b, want)
		}
	}
	for _, k := range none(pulsesMost) {
		if b := Bits(k); b != 0 {
			t.Errorf("Bits(%d) = %d", k, b)
		}
	}
}

// 13.2: each number of a vector of 4 fits into so many bits; into one fewer the greatest one doesn't.
func TestBitsFit(t *testing.T) {
	for k := range pulsesMost + 1 {
		b, greatest := Bits(k), 0
		walk(4, k, func(y []int) { greatest = max(greatest, numberOf(t, y)) })
		if greatest>>b != 0 || b > 0 && greatest>>(b-1) == 0 {
			t.Errorf("Bits(%d) = %d, the greatest number %d", k, b, greatest)
		}
	}
}

// 13.3: Index undoes Vector, for many numbers of each n and k that has too many to go through all; greater numbers' vectors come behind lesser ones'.
func TestIndexUndoesVector(t *testing.T) {
	next := numbers(2)
	for n, row := range counted {
		for k, count := range row {
			if count <= 30000 {
				continue
			}
			before := vectorOf(t, n, k, 0)
			for i := 1 + int(next()%40); i < count; i += 1 + int(next()%uint64(count/500)) {
				y := vectorOf(t, n, k, i)
				if p, got := Pulses(y), numberOf(t, y); p != k || got != i {
					t.Fatalf("Vector(%d, %d, %d) = %d, of %d pulses, with the number %d", n, k, i, y, p, got)
				}
				if byRank(before, y) >= 0 {
					t.Fatalf("Vector(%d, %d, %d) = %d comes ahead of %d", n, k, i, y, before)
				}
				before = y
			}
		}
	}
}

// 13.3: Vector undoes Index, for many vectors of each n and k, and no number is out of 0 to Count - 1.
func TestVectorUndoesIndex(t *testing.T) {
	next := numbers(3)
	for n := 1; n <= numbersMost; n++ {
		for k := range pulsesMost + 1 {
			for range 300 {
				want := scattered(next, n, k)
				i := numberOf(t, want)
				if i < 0 || i >= counted[n][k] {
					t.Fatalf("Index(%d) = %d, of %d", want, i, counted[n][k])
				}
				if y := vectorOf(t, n, k, i); !slices.Equal(y, want) {
					t.Fatalf("Index(%d) = %d, but of that %d", want, i, y)
				}
			}
		}
	}
}

// 13.3: neighbours by number are in order wherever the first number changes.
func TestNeighbours(t *testing.T) {
	for n := 1; n <= numbersMost; n++ {
		for k := range pulsesMost + 1 {
			start := 0
			for r := range 2*k + 1 {
				first := (r + 1) / 2 // the number whose rank is r
				start += counted[n-1][k-first]
				if start == counted[n][k] {
					break
				}
				a, b := vectorOf(t, n, k, max(start-1, 0)), vectorOf(t, n, k, start)
				if start > 0 && (byRank(a, b) >= 0 || rank(a[0]) > r) || rank(b[0]) <= r {
					t.Fatalf("of %d with %d pulses %d is ahead of number %d, %d", n, k, a, start, b)
				}
			}
		}
	}
}

// Rule 4: what is handed in isn't changed, spare room included, whether it is refused or not.
func TestGivenStays(t *testing.T) {
	next := numbers(4)
	for range 300 {
		spare := scattered(next, 12, int(next()%30))
		kept := slices.Clone(spare)
		n := int(next() % 11)
		Index(spare[:n])
		Pulses(spare[:n])
		if !slices.Equal(spare, kept) {
			t.Fatalf("%d became %d", kept, spare)
		}
	}
	wrong := []int{math.MinInt, 13, math.MaxInt}
	Index(wrong)
	Pulses(wrong)
	if !slices.Equal(wrong, []int{math.MinInt, 13, math.MaxInt}) {
		t.Errorf("a refused vector became %d", wrong)
	}
}

// Rule 4: no two answers share memory, spare room included, and none is kept.
func TestAnswersApart(t *testing.T) {
	for n, row := range counted {
		for k, count := range row {
			for _, i := range []int{0, count / 2, count - 1} {
				if count == 0 {
					continue
				}
				y := vectorOf(t, n, k, i)
				want := slices.Clone(y)
				other := vectorOf(t, n, k, i)
				for at := range other[:cap(other)] {
					other[:cap(other)][at] = 99
				}
				if again := vectorOf(t, n, k, i); !slices.Equal(y, want) || !slices.Equal(again, want) {
					t.Fatalf("Vector(%d, %d, %d) = %d, then %d, %d", n, k, i, want, y, again)
				}
			}
		}
	}
}

// Rule 6: what a call answers hangs on its arguments alone, whatever was asked ahead of it.
func TestTwice(t *testing.T) {
	next := numbers(5)
	for range 200 {
		y := scattered(next, 8, int(next()%13))
		i, k := numberOf(t, y), Pulses(y)
		c, b := Count(8, k), Bits(k)
		Index([]int{math.MinInt})
		Vector(9, -1, math.MaxInt)
		Vector(4, 12, -1)
		Count(-1, 13)
		Bits(-1)
		Index(scattered(next, 5, 9))
		if numberOf(t, y) != i || Count(8, k) != c || Bits(k) != b || Pulses(y) != k || !slices.Equal(vectorOf(t, 8, k, i), y) {
			t.Fatalf("another answer for %d", y)
		}
	}
}
