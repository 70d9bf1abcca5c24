package band

import (
	"math"
	"testing"

	"belfry/api"
)

// steps are coefficients and their steps, worked out by another program; 6 0 0 0 and -7 0 0 0 are the chapter's example.
var steps = []struct {
	c    [4]int
	want int
}{
	{[4]int{0, 0, 0, 0}, 0},
	{[4]int{6, 0, 0, 0}, 0},
	{[4]int{-7, 0, 0, 0}, 1},
	{[4]int{7, 0, 0, 0}, 1},
	{[4]int{-6, 0, 0, 0}, 0},
	{[4]int{0, 12, 0, 0}, 1},
	{[4]int{0, 0, -13, 0}, 2},
	{[4]int{0, 0, 0, 24}, 2},
	{[4]int{25, 0, 0, 0}, 3},
	{[4]int{1, -2, 3, -4}, 0},
	{[4]int{5, 6, -6, -5}, 0},
	{[4]int{6, 6, 6, 7}, 1},
	{[4]int{-6, -6, -7, -6}, 1},
	{[4]int{28, 29, 30, 31}, 3},
	{[4]int{-100, 7, 6, 5}, 5},
	{[4]int{5, 6, 7, -100}, 5},
	{[4]int{196608, 0, 0, 0}, 15},
	{[4]int{0, -196608, 0, 0}, 15},
	{[4]int{98304, 98304, 98304, 98304}, 14},
	{[4]int{0, 0, 98305, 0}, 15},
	{[4]int{0, 0, 0, -98305}, 15},
	{[4]int{196609, 0, 0, 0}, 15},
	{[4]int{0, -196609, 0, 0}, 15},
	{[4]int{1048576, 0, -1048576, 1}, 15},
	{[4]int{4294967296, 0, 0, 0}, 15},
	{[4]int{0, 4294967302, 0, 0}, 15},
	{[4]int{0, 0, 2147483648, 0}, 15},
	{[4]int{-2147483648, 0, 0, 0}, 15},
	{[4]int{1099511627776, 0, 0, 0}, 15},
	{[4]int{math.MaxInt, 0, 0, 0}, 15},
	{[4]int{0, math.MinInt, 0, 0}, 15},
	{[4]int{0, 0, math.MaxInt, math.MinInt}, 15},
	{[4]int{math.MinInt, math.MinInt, math.MinInt, math.MinInt}, 15},
	{[4]int{math.MinInt, 5, 0, 0}, 15},
	{[4]int{0, 0, 5, -math.MaxInt}, 15},
	{[4]int{-1, 1, math.MinInt, 0}, 15},
	{[4]int{-1, 1, 1, -2}, 0},
	{[4]int{0, -3, 1, -6}, 0},
	{[4]int{1, 9, 10, -4}, 1},
	{[4]int{-5, 8, -5, -12}, 1},
	{[4]int{-6, -5, -3, 18}, 2},
	{[4]int{-15, 23, 14, -5}, 2},
	{[4]int{-46, -20, 29, -16}, 3},
	{[4]int{-46, -29, 29, 37}, 3},
	{[4]int{65, -89, 22, 20}, 4},
	{[4]int{57, 64, 84, -21}, 4},
	{[4]int{-78, -34, -7, -60}, 4},
	{[4]int{23, -148, -14, 61}, 5},
	{[4]int{49, 145, 274, -208}, 6},
	{[4]int{192, -84, 208, -339}, 6},
	{[4]int{-189, -597, -756, 303}, 7},
	{[4]int{-4, -288, 235, -452}, 7},
	{[4]int{-271, -290, -240, 351}, 6},
	{[4]int{321, -1267, -864, 1328}, 8},
	{[4]int{878, 2890, -2965, 574}, 9},
	{[4]int{954, -2958, 819, 2654}, 9},
	{[4]int{-4130, 1298, 3899, -4864}, 10},
	{[4]int{2035, 4576, -5772, -3786}, 10},
	{[4]int{10881, -4678, 1022, -189}, 11},
	{[4]int{-11206, 5381, -10880, 9318}, 11},
	{[4]int{18033, 1639, 14995, -3646}, 12},
	{[4]int{6715, 8920, 19235, 20032}, 12},
	{[4]int{36753, -39860, -19293, -7212}, 13},
	{[4]int{-35927, 43591, -36946, 21855}, 13},
	{[4]int{-66450, -34569, -95909, 5063}, 14},
	{[4]int{65688, -86090, -68525, 95128}, 14},
	{[4]int{163473, -171327, 9271, -116298}, 15},
	{[4]int{138072, 166950, -62666, -70965}, 15},
}

// noBands are numbers of which there is no band; some of them are one by their rest, or times four.
var noBands = []int{
	-1, 8, -2, -4, -7, -8, 9, 15, 16, 31, 32, 100, -100, 1 << 31, -1 << 31, 1 << 32, -1 << 32, 1<<32 + 1,
	1 << 61, 1 << 62, -1 << 62, 1<<62 + 1, -1<<62 + 1, math.MaxInt - 7, math.MaxInt, math.MinInt, math.MinInt + 1,
}

// noSteps are numbers that are no step.
var noSteps = []int{
	-1, 16, -2, 17, 31, 32, -15, -16, 255, 256, -256, 1 << 16, 1 << 31, -1 << 31, 1 << 32, -1 << 32, 1<<32 + 1,
	math.MaxInt - 1, math.MaxInt, math.MinInt, math.MinInt + 1,
}

// sets are coefficients that are put.
var sets = [][4]int{
	{0, 0, 0, 0}, {1, 2, 3, 4}, {-1, -2, -3, -4}, {0, 0, 0, 9}, {1 << 20, -1 << 20, 1<<20 + 1, -1<<20 - 1},
	{1 << 40, -1 << 40, 0, 7}, {math.MaxInt, math.MinInt, math.MaxInt, math.MinInt}, {math.MinInt, 0, 0, math.MaxInt},
}

// numbers answers a source of words that is the same in each run.
func numbers(seed uint64) func() uint64 {
	return func() uint64 {
		seed += 0x9e3779b97f4a7c15
		z := (seed ^ seed>>30) * 0xbf58476d1ce4e5b9
		z = (z ^ z>>27) * 0x94d049bb133111eb
		return z ^ z>>31
	}
}

// random answers a frame with numbers of all sizes.
func random(next func() uint64) api.Frame {
	var f api.Frame
	for i := range f {
		f[i] = int(next()) >> (next() % 64)
	}
	return f
}

// frames are frames of zeros, of places, of the ends of all ints, and some with numbers of all sizes.
func frames() []api.Frame {
	out := make([]api.Frame, 5)
	for i := range api.N {
		out[1][i], out[2][i], out[3][i], out[4][i] = i, -1000-i, math.MaxInt, math.MinInt
	}
	next := numbers(16)
	for range 200 {
		out = append(out, random(next))
	}
	return out
}

// sizeByHand answers a number without its sign, of a kind that has the least int's, too.
func sizeByHand(x int) uint64 {
	if x < 0 {
		return uint64(-(x + 1)) + 1
	}
	return uint64(x)
}

// greatestByHand answers the greatest size of a band's coefficients.
func greatestByHand(c [4]int) uint64 {
	g := uint64(0)
	for _, x := range c {
		g = max(g, sizeByHand(x))
	}
	return g
}

// stepByHand answers a step by the chapter's words: it goes from the greatest step down, as long as the lesser one will do.
func stepByHand(c [4]int) int {
	step, bound := 15, uint64(6*16384)
	for step > 0 && greatestByHand(c) <= bound {
		step--
		bound /= 2
	}
	return step
}

// bandByHand answers a band's coefficients, one by one.
func bandByHand(f api.Frame, b int) [4]int {
	return [4]int{f[4*b], f[4*b+1], f[4*b+2], f[4*b+3]}
}

// putByHand answers a frame with coefficients in a band, one by one.
func putByHand(f api.Frame, b int, c [4]int) api.Frame {
	for i := range f {
		if i/4 == b {
			f[i] = c[i%4]
		}
	}
	return f
}

// 16.1: a band's coefficients are 4 b to 4 b + 3, whatever they are.
func TestOf(t *testing.T) {
	for _, f := range frames() {
		for b := range 8 {
			if got, want := Of(f, b), bandByHand(f, b); got != want {
				t.Fatalf("Of(%v, %d) = %v, want %v", f, b, got, want)
			}
		}
	}
	if c := Of(frames()[1], 0); c != [4]int{0, 1, 2, 3} {
		t.Errorf("the first band = %v", c)
	}
	if c := Of(frames()[1], 7); c != [4]int{28, 29, 30, 31} {
		t.Errorf("the last band = %v", c)
	}
}

// 16.1: of no band there are 0s, and a frame stays.
func TestNoBand(t *testing.T) {
	for _, f := range frames() {
		for _, b := range noBands {
			if c := Of(f, b); c != [4]int{} {
				t.Fatalf("Of(f, %d) = %v", b, c)
			}
			for _, c := range sets {
				if g := Put(f, b, c); g != f {
					t.Fatalf("Put(%v, %d, %v) = %v", f, b, c, g)
				}
			}
		}
	}
}

// 16.1, 16.2: what was put is there, and nowhere else: the other 28 numbers stay, and so does the frame that came in.
func TestPut(t *testing.T) {
	for _, f := range frames() {
		for b := range 8 {
			for _, c := range sets {
				old, given := f, c
				g := Put(f, b, c)
				if g != putByHand(old, b, c) {
					t.Fatalf("Put(%v, %d, %v) = %v", old, b, c, g)
				}
				if Of(g, b) != c {
					t.Fatalf("Of(Put(f, %d, %v), %d) = %v", b, c, b, Of(g, b))
				}
				if f != old || c != given {
					t.Fatalf("Put(%v, %d, %v) changed what was given", old, b, given)
				}
			}
		}
	}
}

// 16.2: what was put in one band isn't in the others, and goes where something else is put.
func TestPutAfterPut(t *testing.T) {
	for _, f := range frames()[:30] {
		for a := range 8 {
			for b := range 8 {
				g := Put(Put(f, a, [4]int{1, -2, 3, -4}), b, [4]int{5, -6, 7, -8})
				for other := range 8 {
					want := Of(f, other)
					if other == a {
						want = [4]int{1, -2, 3, -4}
					}
					if other == b {
						want = [4]int{5, -6, 7, -8}
					}
					if got := Of(g, other); got != want {
						t.Fatalf("put in %d and %d, the band %d = %v, want %v", a, b, other, got, want)
					}
				}
			}
		}
	}
}

// 16.1, 16.2: a frame is its bands put, one by one, in any order; a band put where it was changes nothing.
func TestWhole(t *testing.T) {
	for _, f := range frames() {
		var up, down api.Frame
		for b := range 8 {
			up, down = Put(up, b, Of(f, b)), Put(down, 7-b, Of(f, 7-b))
			if Put(f, b, Of(f, b)) != f {
				t.Fatalf("the band %d put where it was: %v", b, Put(f, b, Of(f, b)))
			}
		}
		if up != f || down != f {
			t.Fatalf("put together: %v and %v, want %v", up, down, f)
		}
	}
}

// 16.1: steps that another program worked out, the chapter's example among them.
func TestSteps(t *testing.T) {
	for _, s := range steps {
		if got := Step(s.c); got != s.want {
			t.Errorf("Step(%v) = %d, want %d", s.c, got, s.want)
		}
		if got := stepByHand(s.c); got != s.want {
			t.Errorf("by hand the step of %v = %d, want %d", s.c, got, s.want)
		}
	}
}

// 16.1: at each place, 6 times 2^s and its negative are of the step s; one more is of the next one, if there is one.
func TestEdges(t *testing.T) {
	bound := 6
	for s := range 16 {
		for at := range 4 {
			for _, sign := range []int{1, -1} {
				var c [4]int
				c[at] = sign * bound
				if got := Step(c); got != s {
					t.Errorf("Step(%v) = %d, want %d", c, got, s)
				}
				c[at] = sign * (bound - 1)
				if got := Step(c); got != s {
					t.Errorf("Step(%v) = %d, want %d", c, got, s)
				}
				c[at] = sign * (bound + 1)
				if got, want := Step(c), min(s+1, 15); got != want {
					t.Errorf("Step(%v) = %d, want %d", c, got, want)
				}
			}
		}
		bound *= 2
	}
}

// 16.1: all small numbers, and some of all sizes, by the chapter's words.
func TestStepByHand(t *testing.T) {
	for x := -60; x <= 60; x++ {
		for y := -60; y <= 60; y++ {
			for _, c := range [][4]int{{x, y, 0, 0}, {0, x, -y, 1}, {-6, 6, x, y}, {y, -12, 0, x}} {
				if got, want := Step(c), stepByHand(c); got != want {
					t.Fatalf("Step(%v) = %d, want %d", c, got, want)
				}
			}
		}
	}
	for _, f := range frames() {
		for b := range 8 {
			c := bandByHand(f, b)
			if got, want := Step(c), stepByHand(c); got != want {
				t.Fatalf("Step(%v) = %d, want %d", c, got, want)
			}
		}
	}
}

// 16.1: a step hangs on neither signs nor order.
func TestTurnedOver(t *testing.T) {
	next := numbers(161)
	for range 2000 {
		var c [4]int
		for i := range c {
			c[i] = int(next()) >> (32 + next()%32)
		}
		want := Step(c)
		for i := range c {
			c[i] = -c[i]
			if got := Step(c); got != want {
				t.Fatalf("Step(%v) = %d, want %d", c, got, want)
			}
			c[i], c[(i+1)%4] = c[(i+1)%4], c[i]
			if got := Step(c); got != want {
				t.Fatalf("Step(%v) = %d, want %d", c, got, want)
			}
		}
	}
}

// 16.1: what is too great for every step is of the step 15: at each place, alone and beside others, the least int, too.
func TestTooGreat(t *testing.T) {
	for _, x := range []int{196609, -196609, 1 << 20, -1 << 20, 1 << 31, -1 << 31, 1 << 32, 1 << 62, -1 << 62, math.MaxInt, -math.MaxInt, math.MinInt} {
		for at := range 4 {
			for _, other := range []int{0, 1, -6, 7, 98304, -196608, 196608} {
				c := [4]int{other, other, other, other}
				c[at] = x
				if got := Step(c); got != 15 {
					t.Errorf("Step(%v) = %d", c, got)
				}
			}
		}
	}
}

// 16.2: a band's greatest is 6 times its gain at most, if that is so of any step, and more than 3 times it, if its step is 1 to 14.
func TestGreatest(t *testing.T) {
	next := numbers(162)
	met := map[int]int{}
	for range 20000 {
		var c [4]int
		fewer := 44 + next()%18
		for i := range c {
			c[i] = int(next()) >> fewer
		}
		s := Step(c)
		met[s]++
		gain := uint64(math.Pow(2, float64(s)))
		if s < 0 || s > 15 {
			t.Fatalf("Step(%v) = %d", c, s)
		}
		if s < 15 && greatestByHand(c) > 6*gain {
			t.Fatalf("%v are of the step %d, but too great", c, s)
		}
		if s >= 1 && greatestByHand(c) <= 3*gain {
			t.Fatalf("%v are of the step %d, but too small", c, s)
		}
	}
	for s := range 16 {
		if met[s] < 100 {
			t.Errorf("the step %d was met %d times", s, met[s])
		}
	}
}

// 16.1: a frame's steps are its bands', each at its own place.
func TestAllSteps(t *testing.T) {
	orders := []api.Side{{0, 1, 2, 3, 4, 5, 6, 7}, {15, 14, 13, 12, 11, 10, 9, 8}, {3, 0, 15, 7, 1, 12, 5, 9}}
	for _, want := range orders {
		var f api.Frame
		for b, s := range want {
			sign := 1 - 2*(b%2)
			f[4*b+b%3], f[4*b+3] = sign*6*(1<<s), 1
		}
		if got := Steps(f); got != want {
			t.Errorf("Steps(%v) = %v, want %v", f, got, want)
		}
	}
	for _, f := range frames() {
		old := f
		got := Steps(f)
		for b := range 8 {
			if want := stepByHand(bandByHand(f, b)); got[b] != want {
				t.Fatalf("Steps(%v)[%d] = %d, want %d", f, b, got[b], want)
			}
		}
		if !Right(got) {
			t.Fatalf("Right(Steps(%v)) = false", f)
		}
		if f != old {
			t.Fatalf("Steps changed %v", old)
		}
	}
	if got := Steps(api.Frame{}); got != (api.Side{}) {
		t.Errorf("Steps of 0s = %v", got)
	}
}

// 16.1: steps may be that are all 0 to 15.
func TestRight(t *testing.T) {
	for _, s := range []api.Side{{}, {15, 15, 15, 15, 15, 15, 15, 15}, {0, 1, 2, 3, 4, 5, 6, 7}, {15, 14, 13, 12, 11, 10, 9, 8}} {
		if !Right(s) {
			t.Errorf("Right(%v) = false", s)
		}
	}
	for at := range 8 {
		for x := range 16 {
			var s api.Side
			s[at] = x
			if !Right(s) {
				t.Errorf("Right(%v) = false", s)
			}
		}
	}
}

// 16.1: one that is no step, at any place, and no steps may be.
func TestNotRight(t *testing.T) {
	for _, x := range noSteps {
		for at := range 8 {
			for _, other := range []int{0, 7, 15} {
				s := api.Side{other, other, other, other, other, other, other, other}
				s[at] = x
				if Right(s) {
					t.Errorf("Right(%v) = true", s)
				}
			}
		}
		if s := (api.Side{x, x, x, x, x, x, x, x}); Right(s) {
			t.Errorf("Right(%v) = true", s)
		}
	}
	if Right(api.Side{-1, 16}) || Right(api.Side{7: 16, 6: -1}) {
		t.Error("two that are no steps are right")
	}
}

// brought are numbers, and where they are brought to.
var brought = [][2]int{
	{0, 0}, {1, 1}, {-1, -1}, {5, 5}, {-196609, -196609}, {1048575, 1048575}, {-1048575, -1048575}, {1048576, 1048576}, {-1048576, -1048576},
	{1048577, 1048576}, {-1048577, -1048576}, {2097152, 1048576}, {-2097152, -1048576}, {1 << 31, 1048576}, {-1 << 31, -1048576},
	{1 << 32, 1048576}, {-1 << 32, -1048576}, {1<<32 + 5, 1048576}, {math.MaxInt, 1048576}, {-math.MaxInt, -1048576}, {math.MinInt, -1048576},
}

// 16.1: each number is brought into its range, at each place, and no other one is touched.
func TestClamp(t *testing.T) {
	for _, x := range brought {
		for at := range 32 {
			for _, other := range []int{0, 77, -1048576, 1048576} {
				var f, want api.Frame
				for i := range f {
					f[i], want[i] = other, other
				}
				f[at], want[at] = x[0], x[1]
				old := f
				if got := Clamp(f); got != want {
					t.Fatalf("Clamp of %d at %d beside %d = %v", x[0], at, other, got)
				}
				if f != old {
					t.Fatalf("Clamp changed %v", old)
				}
			}
		}
	}
}

// 16.1: a frame brought into its range has numbers from -2^20 to 2^20, those that were there already as they were; brought twice, it is that once.
func TestClampTwice(t *testing.T) {
	for _, f := range frames() {
		g := Clamp(f)
		for i, x := range f {
			want := x
			if x > 1048576 {
				want = 1048576
			}
			if x < -1048576 {
				want = -1048576
			}
			if g[i] != want {
				t.Fatalf("Clamp(%v)[%d] = %d, want %d", f, i, g[i], want)
			}
		}
		if Clamp(g) != g {
			t.Fatalf("Clamp(Clamp(%v)) = %v", f, Clamp(g))
		}
	}
}

// Rule 6: one call says nothing to another one.
func TestTwice(t *testing.T) {
	all := frames()
	before := make([]api.Frame, len(all))
	for i, f := range all {
		before[i] = Clamp(Put(f, i%8, [4]int{i, -i, 1 << 30, Step(Of(f, 0))}))
	}
	for i := len(all) - 1; i >= 0; i-- {
		f := all[i]
		Steps(f)
		Put(f, 3, [4]int{9, 9, 9, 9})
		Put(f, -1, [4]int{9, 9, 9, 9})
		if got := Clamp(Put(f, i%8, [4]int{i, -i, 1 << 30, Step(Of(f, 0))})); got != before[i] {
			t.Fatalf("the second time %v, the first time %v", got, before[i])
		}
	}
}
