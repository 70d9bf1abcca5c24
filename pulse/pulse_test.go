package pulse

import (
	"math"
	"testing"

	"belfry/api"
)

const (
	greatest   = 1048576 // 2^20, the greatest coefficient
	pulsesMost = 12      // how many pulses a band has at most
	stepMost   = 15      // the greatest step
)

// wrongSteps are numbers that are no step: those next to the ends, and far ones.
var wrongSteps = []int{-1, 16, -2, 17, -15, 31, 32, 63, 64, -64, 1 << 32, 1<<32 + 1, math.MaxInt, math.MinInt, math.MinInt + 1}

// wrongCounts are numbers of pulses that a band can't have.
var wrongCounts = []int{-1, 13, -2, 14, -12, 24, 1 << 32, 1<<32 + 1, math.MaxInt, math.MinInt, math.MinInt + 1}

// tooManyPulses are numbers that are too great for a coefficient's pulses.
var tooManyPulses = []int{-13, 13, -14, 14, 100, -100, 1 << 32, -1 << 32, math.MaxInt, math.MinInt, math.MinInt + 1}

// tooGreat are numbers that are too great for a coefficient.
var tooGreat = []int{greatest + 1, -greatest - 1, 2 * greatest, -2 * greatest, 1 << 32, -1 << 32, math.MaxInt, math.MinInt, math.MinInt + 1, math.MinInt + greatest}

// found are coefficients, a step, how many pulses, what they are and how far, worked out by another program that went through all vectors for the distance.
var found = []struct {
	c       [4]int
	step, k int
	y       api.Pulses
	far     int
}{
	{[4]int{100, -50, 0, 7}, 5, 4, api.Pulses{3, -1, 0, 0}, 29},
	{[4]int{0, 0, 0, 0}, 0, 3, api.Pulses{3, 0, 0, 0}, 3},
	{[4]int{0, 0, 0, 0}, 7, 12, api.Pulses{12, 0, 0, 0}, 1536},
	{[4]int{0, 0, 0, -9}, 0, 12, api.Pulses{3, 0, 0, -9}, 3},
	{[4]int{0, 0, 0, -9}, 0, 9, api.Pulses{0, 0, 0, -9}, 0},
	{[4]int{5, 5, 5, 5}, 15, 0, api.Pulses{0, 0, 0, 0}, 20},
	{[4]int{8, 8, 8, 8}, 3, 1, api.Pulses{1, 0, 0, 0}, 24},
	{[4]int{8, 8, 8, 8}, 3, 3, api.Pulses{1, 1, 1, 0}, 8},
	{[4]int{-8, 8, -8, 8}, 3, 2, api.Pulses{-1, 1, 0, 0}, 16},
	{[4]int{-8, 8, -8, 8}, 3, 6, api.Pulses{-3, 1, -1, 1}, 16},
	{[4]int{7, -7, 7, -7}, 3, 5, api.Pulses{2, -1, 1, -1}, 12},
	{[4]int{3, -3, 2, 1}, 3, 1, api.Pulses{1, 0, 0, 0}, 11},
	{[4]int{3, -3, 2, 1}, 3, 2, api.Pulses{1, -1, 0, 0}, 13},
	{[4]int{1, -2, 3, -3}, 3, 1, api.Pulses{0, 0, 1, 0}, 11},
	{[4]int{1, 2, 3, 4}, 3, 1, api.Pulses{0, 0, 0, 1}, 10},
	{[4]int{4, 4, 4, 4}, 3, 2, api.Pulses{1, 1, 0, 0}, 16},
	{[4]int{0, -1, 0, 0}, 0, 1, api.Pulses{0, -1, 0, 0}, 0},
	{[4]int{0, -1, 0, 0}, 0, 2, api.Pulses{1, -1, 0, 0}, 1},
	{[4]int{-1, 0, 0, 0}, 1, 1, api.Pulses{-1, 0, 0, 0}, 1},
	{[4]int{0, -1, 0, 1}, 1, 1, api.Pulses{0, -1, 0, 0}, 2},
	{[4]int{-3, 0, 0, 0}, 3, 5, api.Pulses{-5, 0, 0, 0}, 37},
	{[4]int{0, 0, -1, 0}, 4, 3, api.Pulses{2, 0, -1, 0}, 47},
	{[4]int{2, 4, 0, 0}, 3, 1, api.Pulses{0, 1, 0, 0}, 6},
	{[4]int{4, -4, 0, 0}, 3, 1, api.Pulses{1, 0, 0, 0}, 8},
	{[4]int{0, 0, 0, 4}, 3, 1, api.Pulses{0, 0, 0, 1}, 4},
	{[4]int{12, 4, 0, 0}, 3, 3, api.Pulses{2, 1, 0, 0}, 8},
	{[4]int{12, 8, 0, 0}, 3, 2, api.Pulses{1, 1, 0, 0}, 4},
	{[4]int{1048576, -1048576, 1048576, -1048576}, 15, 12, api.Pulses{12, 0, 0, 0}, 3801088},
	{[4]int{1048576, 0, 0, 0}, 15, 12, api.Pulses{12, 0, 0, 0}, 655360},
	{[4]int{0, 0, 0, -1048576}, 15, 12, api.Pulses{0, 0, 0, -12}, 655360},
	{[4]int{1048576, 1048576, 1048576, 1048576}, 0, 12, api.Pulses{12, 0, 0, 0}, 4194292},
	{[4]int{-1048576, -1048576, -1048576, -1048576}, 14, 7, api.Pulses{-7, 0, 0, 0}, 4079616},
	{[4]int{1048575, 1048576, -1048576, -1048575}, 15, 2, api.Pulses{2, 0, 0, 0}, 4128766},
	{[4]int{1, -1, 1, -1}, 15, 12, api.Pulses{9, -1, 1, -1}, 393212},
	{[4]int{32767, -32768, 16384, -16384}, 15, 2, api.Pulses{1, -1, 0, 0}, 32769},
	{[4]int{32767, -32768, 16384, -16384}, 15, 3, api.Pulses{1, -1, 1, 0}, 32769},
	{[4]int{32767, -32768, 16385, -16384}, 15, 4, api.Pulses{1, -1, 1, -1}, 32768},
	{[4]int{3, 5, 6, 4}, 0, 2, api.Pulses{2, 0, 0, 0}, 16},
	{[4]int{-3, -2, 5, -2}, 0, 9, api.Pulses{-3, -2, 4, 0}, 3},
	{[4]int{11, -10, 9, 2}, 1, 5, api.Pulses{5, 0, 0, 0}, 22},
	{[4]int{2, 9, 0, 0}, 1, 5, api.Pulses{1, 4, 0, 0}, 1},
	{[4]int{-8, -10, -4, -2}, 2, 2, api.Pulses{-2, 0, 0, 0}, 16},
	{[4]int{-1, 16, 16, 9}, 2, 5, api.Pulses{0, 4, 1, 0}, 22},
	{[4]int{-28, 22, 37, 36}, 3, 3, api.Pulses{-3, 0, 0, 0}, 99},
	{[4]int{-27, -47, 35, -40}, 3, 5, api.Pulses{-3, -2, 0, 0}, 109},
	{[4]int{56, -10, -89, -75}, 4, 2, api.Pulses{2, 0, 0, 0}, 198},
	{[4]int{-44, 1, 7, 53}, 4, 5, api.Pulses{-2, 0, 0, 3}, 25},
	{[4]int{119, -144, 136, 159}, 5, 8, api.Pulses{3, -4, 1, 0}, 302},
	{[4]int{104, 109, 134, 132}, 5, 2, api.Pulses{2, 0, 0, 0}, 415},
	{[4]int{-199, -288, 380, 114}, 6, 6, api.Pulses{-3, -3, 0, 0}, 597},
	{[4]int{304, -186, -107, 79}, 6, 9, api.Pulses{4, -3, -1, 1}, 112},
	{[4]int{-322, 224, -192, 256}, 7, 10, api.Pulses{-4, 2, -2, 2}, 286},
	{[4]int{-559, -520, -585, -198}, 7, 5, api.Pulses{-4, -1, 0, 0}, 1222},
	{[4]int{-1052, -1422, -874, 1496}, 8, 5, api.Pulses{-4, -1, 0, 0}, 3564},
	{[4]int{-1070, 1274, 617, 864}, 8, 7, api.Pulses{-4, 3, 0, 0}, 2033},
	{[4]int{411, 863, 2542, -1693}, 9, 2, api.Pulses{0, 1, 1, 0}, 4485},
	{[4]int{95, 656, -537, 900}, 9, 9, api.Pulses{3, 2, -2, 2}, 2420},
	{[4]int{1016, 699, 3611, -4590}, 10, 8, api.Pulses{1, 0, 3, -4}, 1740},
	{[4]int{1630, 312, -2274, 1216}, 10, 5, api.Pulses{2, 0, -2, 1}, 1148},
	{[4]int{3737, -10111, 6360, -7593}, 11, 10, api.Pulses{1, -4, 3, -2}, 7321},
	{[4]int{10763, -3546, 6437, 2175}, 11, 8, api.Pulses{5, -1, 2, 0}, 6537},
	{[4]int{21619, 2011, 3152, -23214}, 12, 1, api.Pulses{1, 0, 0, 0}, 45900},
	{[4]int{21936, 12740, -462, 6294}, 12, 6, api.Pulses{5, 1, 0, 0}, 16856},
	{[4]int{-2543, -9531, 20326, -24418}, 13, 5, api.Pulses{0, -1, 2, -2}, 15858},
	{[4]int{33215, 24232, 12354, -15588}, 13, 1, api.Pulses{1, 0, 0, 0}, 77197},
	{[4]int{3380, -72659, -89187, -47871}, 14, 2, api.Pulses{0, -2, 0, 0}, 180329},
	{[4]int{-91702, -98209, 55323, 34515}, 14, 5, api.Pulses{-5, 0, 0, 0}, 197829},
	{[4]int{76846, -8769, -64732, -136946}, 15, 5, api.Pulses{2, 0, -1, -2}, 123453},
	{[4]int{-119957, -92255, -195675, -76004}, 15, 1, api.Pulses{-1, 0, 0, 0}, 451123},
}

// numbers answers a source of words that is the same in each run.
func numbers(seed uint64) func() uint64 {
	return func() uint64 {
		seed += 0x9e3779b97f4a7c15
		z := (seed ^ seed>>30) * 0xbf58476d1ce4e5b9
		z = (z ^ z>>27) * 0x94d049bb133111eb
		return z ^ z>>31
	}
}

// sizeByHand answers a number without its sign, which the least int has not.
func sizeByHand(x int) int {
	if x < 0 {
		return -x
	}
	return x
}

// gainByHand answers 2^step by doubling.
func gainByHand(step int) int {
	gain := 1
	for range step {
		gain *= 2
	}
	return gain
}

// farByHand answers a distance by the chapter's words.
func farByHand(c [4]int, y api.Pulses, step int) int {
	sum := 0
	for i := range c {
		sum += sizeByHand(c[i] - y[i]*gainByHand(step))
	}
	return sum
}

// oneMore answers pulses with one more at a place, of the sign of its coefficient.
func oneMore(c [4]int, y api.Pulses, at int) api.Pulses {
	if c[at] >= 0 {
		y[at]++
	} else {
		y[at]--
	}
	return y
}

// findByHand finds pulses by the chapter's words, looking at all four coefficients each time.
func findByHand(c [4]int, step, k int) api.Pulses {
	var y api.Pulses
	for range k {
		best := oneMore(c, y, 0)
		for at := 1; at < 4; at++ {
			if z := oneMore(c, y, at); farByHand(c, z, step) < farByHand(c, best, step) {
				best = z
			}
		}
		y = best
	}
	return y
}

// vectors hands each vector of k pulses to a function.
func vectors(k int, each func(y api.Pulses)) {
	var y api.Pulses
	var from func(at, left int)
	from = func(at, left int) {
		if at == 4 {
			if left == 0 {
				each(y)
			}
			return
		}
		for x := -left; x <= left; x++ {
			y[at] = x
			from(at+1, left-sizeByHand(x))
		}
	}
	from(0, k)
}

// pulsesOf answers how many pulses there are.
func pulsesOf(y api.Pulses) int {
	sum := 0
	for _, x := range y {
		sum += sizeByHand(x)
	}
	return sum
}

// cut answers a number brought into what a coefficient may be.
func cut(x int) int { return max(-greatest, min(greatest, x)) }

// coefficients answers some of a size that hangs on the gain: often so that falls are alike, or nothing, or far beyond what pulses reach.
func coefficients(next func() uint64, gain int) [4]int {
	var c [4]int
	kind := next() % 5
	for i := range c {
		by := int(next()%40) - 20
		switch kind {
		case 0: // anything
			c[i] = cut(int(next()%uint64(12*gain+1)) - 6*gain)
		case 1: // halves of gains
			c[i] = cut(by * gain / 2)
		case 2: // gains, and one beside them
			c[i] = cut(by*gain/5 + by%3)
		case 3: // less than half a gain
			c[i] = int(next()%uint64(gain+1)) - gain/2
		default: // as great as may be
			c[i] = int(next()%(2*greatest+1)) - greatest
		}
	}
	return c
}

// with answers coefficients with another number at a place.
func with(c [4]int, at, x int) [4]int {
	c[at] = x
	return c
}

// mustFind answers the pulses, which must be found.
func mustFind(t *testing.T, c [4]int, step, k int) api.Pulses {
	t.Helper()
	y, e := Find(c, step, k)
	if e != api.OK {
		t.Fatalf("Find(%d, %d, %d) = %d, %d", c, step, k, y, e)
	}
	return y
}

// refused holds that no pulses are found, for that reason, and that nothing is told beside it.
func refused(t *testing.T, c [4]int, step, k int, want api.Errno) {
	t.Helper()
	if y, e := Find(c, step, k); e != want || y != (api.Pulses{}) {
		t.Errorf("Find(%d, %d, %d) = %d, %d, not %d", c, step, k, y, e, want)
	}
}

// asByHand holds pulses that are found against those of the chapter's words.
func asByHand(t *testing.T, c [4]int, step, k int) {
	t.Helper()
	if y, want := mustFind(t, c, step, k), findByHand(c, step, k); y != want {
		t.Fatalf("Find(%d, %d, %d) = %d, not %d", c, step, k, y, want)
	}
}

// 14.1: each step's gain, and none of another number.
func TestGain(t *testing.T) {
	for step, want := range [...]int{1, 2, 4, 8, 16, 32, 64, 128, 256, 512, 1024, 2048, 4096, 8192, 16384, 32768} {
		if g := Gain(step); g != want {
			t.Errorf("Gain(%d) = %d, not %d", step, g, want)
		}
	}
	for _, step := range wrongSteps {
		if g := Gain(step); g != 0 {
			t.Errorf("Gain(%d) = %d", step, g)
		}
	}
}

// 14.1: pulses stand for their gain times, each at its own place, at each step.
func TestCoefs(t *testing.T) {
	for _, x := range []struct {
		y    api.Pulses
		step int
		want [4]int
	}{
		{api.Pulses{3, -1, 0, 0}, 5, [4]int{96, -32, 0, 0}},
		{api.Pulses{1, -2, 0, 12}, 3, [4]int{8, -16, 0, 96}},
		{api.Pulses{-12, 0, 12, 1}, 0, [4]int{-12, 0, 12, 1}},
		{api.Pulses{12, 12, 12, 12}, 15, [4]int{393216, 393216, 393216, 393216}},
		{api.Pulses{-12, -12, -12, -12}, 15, [4]int{-393216, -393216, -393216, -393216}},
		{api.Pulses{12, -12, 12, -12}, 1, [4]int{24, -24, 24, -24}},
	} {
		if c := Coefs(x.y, x.step); c != x.want {
			t.Errorf("Coefs(%d, %d) = %d, not %d", x.y, x.step, c, x.want)
		}
	}
	for step := range stepMost + 1 {
		for at := range 4 {
			for n := -pulsesMost; n <= pulsesMost; n++ {
				y := api.Pulses(with([4]int{5, -6, 7, -8}, at, n))
				want := [4]int{}
				for i, x := range y {
					want[i] = x * gainByHand(step)
				}
				if c := Coefs(y, step); c != want {
					t.Errorf("Coefs(%d, %d) = %d, not %d", y, step, c, want)
				}
			}
		}
	}
}

// 14.1: pulses stand for nothing, if one number of them is too great, or the step is none.
func TestCoefsOfNone(t *testing.T) {
	none := func(y api.Pulses, step int) {
		t.Helper()
		if c := Coefs(y, step); c != [4]int{} {
			t.Errorf("Coefs(%d, %d) = %d", y, step, c)
		}
	}
	for at := range 4 {
		for _, n := range tooManyPulses {
			y := api.Pulses(with([4]int{1, -2, 3, -12}, at, n))
			for step := range stepMost + 1 {
				none(y, step)
			}
			for _, step := range wrongSteps {
				none(y, step)
			}
		}
		for _, n := range []int{-12, 0, 12} {
			for _, step := range wrongSteps {
				none(api.Pulses(with([4]int{1, 1, -1, 1}, at, n)), step)
			}
		}
	}
}

// 14.1: distances that are told, and those of the chapter's example, coefficient by coefficient.
func TestDistance(t *testing.T) {
	example, y := [4]int{100, -50, 0, 7}, api.Pulses{3, -1, 0, 0}
	for at, want := range []int{4, 18, 0, 7} {
		if d := Distance(with([4]int{}, at, example[at]), api.Pulses(with([4]int{}, at, y[at])), 5); d != want {
			t.Errorf("the distance at %d is %d, not %d", at, d, want)
		}
	}
	for _, x := range []struct {
		c          [4]int
		y          api.Pulses
		step, want int
	}{
		{example, y, 5, 29},
		{[4]int{}, api.Pulses{}, 0, 0}, {[4]int{}, api.Pulses{}, 15, 0},
		{[4]int{1, 2, 3, 4}, api.Pulses{}, 7, 10}, {[4]int{-1, 2, -3, 4}, api.Pulses{}, 7, 10},
		{[4]int{}, api.Pulses{1, -1, 2, -2}, 4, 96}, {[4]int{5, 5, 5, 5}, api.Pulses{-1, 1, -1, 1}, 1, 20},
		{[4]int{12, -12, 12, -12}, api.Pulses{12, -12, 12, -12}, 0, 0}, {[4]int{12, -12, 12, -12}, api.Pulses{-12, 12, -12, 12}, 0, 96},
		{[4]int{greatest, greatest, greatest, greatest}, api.Pulses{}, 3, 4 * greatest}, {[4]int{-greatest, -greatest, -greatest, -greatest}, api.Pulses{}, 3, 4 * greatest},
		{[4]int{greatest, -greatest, greatest, -greatest}, api.Pulses{-12, 12, -12, 12}, 15, 5767168},
		{[4]int{greatest, -greatest, greatest, -greatest}, api.Pulses{12, -12, 12, -12}, 15, 2621440},
		{[4]int{-greatest, 0, 0, greatest}, api.Pulses{12, 0, 0, 12}, 15, 2097152},
	} {
		if d := Distance(x.c, x.y, x.step); d != x.want {
			t.Errorf("Distance(%d, %d, %d) = %d, not %d", x.c, x.y, x.step, d, x.want)
		}
	}
}

// 14.1: distances at each step, by the chapter's words, done by hand; pulses may be far from what would be found.
func TestDistanceByHand(t *testing.T) {
	next := numbers(1)
	for step := range stepMost + 1 {
		for range 500 {
			c := coefficients(next, gainByHand(step))
			var y api.Pulses
			for i := range y {
				y[i] = int(next()%25) - pulsesMost
			}
			if d, want := Distance(c, y, step), farByHand(c, y, step); d != want {
				t.Fatalf("Distance(%d, %d, %d) = %d, not %d", c, y, step, d, want)
			}
		}
	}
}

// 14.1: there is a distance of the greatest numbers at each place, and none beyond them, or of no step.
func TestDistanceOfNone(t *testing.T) {
	c, y := [4]int{3, -4, 5, -6}, api.Pulses{1, -1, 2, -2}
	none := func(c [4]int, y api.Pulses, step int) {
		t.Helper()
		if d := Distance(c, y, step); d != -1 {
			t.Errorf("Distance(%d, %d, %d) = %d", c, y, step, d)
		}
	}
	for at := range 4 {
		for step := range stepMost + 1 {
			for _, sign := range []int{1, -1} {
				great, many := with(c, at, sign*greatest), api.Pulses(with(y, at, sign*pulsesMost))
				if d, want := Distance(great, many, step), farByHand(great, many, step); d != want {
					t.Errorf("Distance(%d, %d, %d) = %d, not %d", great, many, step, d, want)
				}
			}
			for _, x := range tooGreat {
				none(with(c, at, x), y, step)
				none(with(c, at, x), api.Pulses(with(y, at, 13)), step)
			}
			for _, n := range tooManyPulses {
				none(c, api.Pulses(with(y, at, n)), step)
			}
		}
	}
	for _, step := range wrongSteps {
		none(c, y, step)
		none([4]int{}, api.Pulses{}, step)
		none(with(c, 0, math.MinInt), api.Pulses(with(y, 3, math.MaxInt)), step)
	}
}

// 14.2, 14.3: the chapter's example, and what another program found, as far as no vector is nearer.
func TestGivenPulses(t *testing.T) {
	for _, x := range found {
		if y := mustFind(t, x.c, x.step, x.k); y != x.y {
			t.Errorf("Find(%d, %d, %d) = %d, not %d", x.c, x.step, x.k, y, x.y)
		}
		if d := Distance(x.c, x.y, x.step); d != x.far {
			t.Errorf("Distance(%d, %d, %d) = %d, not %d", x.c, x.y, x.step, d, x.far)
		}
	}
}

// 14.2: pulse by pulse what the chapter's words find, at each step, for each number of pulses, of coefficients of all kinds.
func TestFindByHand(t *testing.T) {
	next := numbers(2)
	for step := range stepMost + 1 {
		for k := range pulsesMost + 1 {
			for range 150 {
				asByHand(t, coefficients(next, gainByHand(step)), step, k)
			}
		}
	}
}

// 14.2: likewise of all small coefficients of both signs, so that falls are alike in every way, and so are growths.
func TestSmallByHand(t *testing.T) {
	for a := -4; a <= 4; a++ {
		for b := -4; b <= 4; b++ {
			for c := -4; c <= 4; c++ {
				for d := -4; d <= 4; d++ {
					for step := range 4 {
						asByHand(t, [4]int{a, b, c, d}, step, 1+sizeByHand(3*a+5*b+7*c+d)%pulsesMost)
					}
				}
			}
		}
	}
}

// 14.2: no pulses are found of none, whatever the coefficients are.
func TestFindNone(t *testing.T) {
	for step := range stepMost + 1 {
		for _, c := range [][4]int{{}, {100, -50, 0, 7}, {greatest, -greatest, greatest, -greatest}, {-1, 1, -1, 1}} {
			if y := mustFind(t, c, step, 0); y != (api.Pulses{}) {
				t.Errorf("Find(%d, %d, 0) = %d", c, step, y)
			}
		}
	}
}

// 14.2: of coefficients that are 0 the first one has all pulses, above 0.
func TestFindOfZeros(t *testing.T) {
	for step := range stepMost + 1 {
		for k := range pulsesMost + 1 {
			if y := mustFind(t, [4]int{}, step, k); y != (api.Pulses{k}) {
				t.Errorf("Find of zeros with %d pulses at the step %d = %d", k, step, y)
			}
		}
	}
}

// 14.2: of coefficients whose distances fall alike, whatever their signs are, the first one that has none is given each pulse; once all have one, and all distances grow alike, the first one has what is left.
func TestFindOfEqual(t *testing.T) {
	for step := range stepMost + 1 {
		for signs := range 16 {
			var unit [4]int
			for i := range unit {
				unit[i] = 1 - 2*(signs>>i&1)
			}
			c := Coefs(unit, step)
			for k := 1; k <= pulsesMost; k++ {
				want := api.Pulses{max(1, k-3) * unit[0]}
				for i := 1; i < min(k, 4); i++ {
					want[i] = unit[i]
				}
				if y := mustFind(t, c, step, k); y != want {
					t.Errorf("Find(%d, %d, %d) = %d, not %d", c, step, k, y, want)
				}
			}
		}
	}
}

// 14.2: of coefficients of less than half a gain each pulse makes the distance greater: the greatest of them has the first, and, as its next one would cost a whole gain, the others have theirs by their sizes.
func TestFindOfLessThanHalf(t *testing.T) {
	for step := 4; step <= stepMost; step++ {
		eighth := gainByHand(step) / 8
		c := [4]int{-eighth, 3 * eighth, eighth, -2 * eighth}
		for k, want := range []api.Pulses{{}, {0, 1, 0, 0}, {0, 1, 0, -1}, {-1, 1, 0, -1}, {-1, 1, 1, -1}, {-2, 1, 1, -1}, {-3, 1, 1, -1}} {
			if y := mustFind(t, c, step, k); y != want {
				t.Errorf("Find(%d, %d, %d) = %d, not %d", c, step, k, y, want)
			}
		}
		for k := range pulsesMost {
			less, more := mustFind(t, c, step, k), mustFind(t, c, step, k+1)
			if Distance(c, less, step) >= Distance(c, more, step) {
				t.Errorf("of %d at the step %d %d is no nearer than %d", c, step, less, more)
			}
		}
	}
}

// 14.2: of 2^20 and -2^20, which no pulses reach, the first one has all of them, at the greatest step and at each other; alone at each place that one has.
func TestFindOfGreatest(t *testing.T) {
	for step := range stepMost + 1 {
		for k := range pulsesMost + 1 {
			for _, sign := range []int{1, -1} {
				great := sign * greatest
				for _, c := range [][4]int{{great, great, great, great}, {great, -great, great, -great}, {great, greatest - 1, 1 - greatest, greatest - 1}} {
					if y := mustFind(t, c, step, k); y != (api.Pulses{sign * k}) {
						t.Errorf("Find(%d, %d, %d) = %d", c, step, k, y)
					}
				}
				for at := range 4 {
					want := api.Pulses(with([4]int{}, at, sign*k))
					if y := mustFind(t, with([4]int{}, at, great), step, k); y != want {
						t.Errorf("Find of %d at %d, %d, %d = %d", great, at, step, k, y)
					}
				}
			}
		}
	}
}

// 14.2: no pulses are found at no step, or of a wrong number of them, whatever the coefficients are: that is told ahead of one that is too great.
func TestFindOfWrongArguments(t *testing.T) {
	given := [][4]int{{}, {100, -50, 0, 7}, {greatest, -greatest, 0, 0}, {greatest + 1, 0, 0, 0}, {0, -greatest - 1, 0, 0}, {0, 0, math.MinInt, 0}, {0, 0, 0, math.MaxInt}, {math.MinInt, math.MaxInt, math.MinInt, math.MaxInt}}
	for _, c := range given {
		for _, step := range wrongSteps {
			for k := -1; k <= pulsesMost+1; k++ {
				refused(t, c, step, k, api.ErrArg)
			}
		}
		for _, k := range wrongCounts {
			for step := -1; step <= stepMost+1; step++ {
				refused(t, c, step, k, api.ErrArg)
			}
			for _, step := range wrongSteps {
				refused(t, c, step, k, api.ErrArg)
			}
		}
	}
}

// 14.2: no pulses are found of a coefficient that is too great, wherever it is, even where none would be given.
func TestFindOfTooGreat(t *testing.T) {
	for _, x := range tooGreat {
		for step := range stepMost + 1 {
			for k := range pulsesMost + 1 {
				for at := range 4 {
					refused(t, with([4]int{}, at, x), step, k, api.ErrRange)
					refused(t, with([4]int{greatest, -50, -greatest, 7}, at, x), step, k, api.ErrRange)
				}
				refused(t, [4]int{x, x, x, x}, step, k, api.ErrRange)
			}
		}
	}
}

// 14.3: what is found has k pulses, none of another sign than its coefficient, or below 0 of a coefficient of 0; one pulse more is put beside those that were found without it.
func TestFoundPulses(t *testing.T) {
	next := numbers(3)
	for step := range stepMost + 1 {
		for range 300 {
			c := coefficients(next, gainByHand(step))
			var before api.Pulses
			for k := range pulsesMost + 1 {
				y := mustFind(t, c, step, k)
				if n := pulsesOf(y); n != k {
					t.Fatalf("Find(%d, %d, %d) = %d, of %d pulses", c, step, k, y, n)
				}
				apart := 0
				for i := range y {
					if y[i] < 0 && c[i] >= 0 || y[i] > 0 && c[i] < 0 {
						t.Fatalf("Find(%d, %d, %d) = %d: another sign at %d", c, step, k, y, i)
					}
					apart += sizeByHand(y[i] - before[i])
				}
				if k > 0 && apart != 1 {
					t.Fatalf("Find(%d, %d, %d) = %d behind %d", c, step, k, y, before)
				}
				before = y
			}
		}
	}
}

// nearest holds that no vector of k pulses, gone through one by one, is nearer than what is found.
func nearest(t *testing.T, c [4]int, step, k int) {
	t.Helper()
	y := mustFind(t, c, step, k)
	d := Distance(c, y, step)
	vectors(k, func(z api.Pulses) {
		if far := Distance(c, z, step); far < d {
			t.Fatalf("Find(%d, %d, %d) = %d, %d far, but %d is %d far", c, step, k, y, d, z, far)
		}
	})
}

// 14.3: no vector of k pulses has a lesser distance: for small k at many coefficients, for all others at some, at each step.
func TestNoneIsNearer(t *testing.T) {
	next := numbers(4)
	for step := range stepMost + 1 {
		for k := range pulsesMost + 1 {
			times := 5
			if k <= 4 {
				times = 100
			}
			for range times {
				nearest(t, coefficients(next, gainByHand(step)), step, k)
			}
		}
	}
	for _, x := range found {
		nearest(t, x.c, x.step, x.k)
	}
}

// 14.3: coefficients that pulses stand for are found as these pulses, all vectors of up to 12 of them, at each step; nothing is far then.
func TestPulsesAreFoundAgain(t *testing.T) {
	for k := range pulsesMost + 1 {
		at := 0
		vectors(k, func(want api.Pulses) {
			at++
			for step := at % 3; step <= stepMost; step += 3 {
				c := Coefs(want, step)
				if y := mustFind(t, c, step, k); y != want || Distance(c, y, step) != 0 {
					t.Fatalf("Find(%d, %d, %d) = %d, not %d", c, step, k, y, want)
				}
			}
		})
	}
}

// Rule 4: what is given isn't changed, whether it is refused or not.
func TestGivenStays(t *testing.T) {
	next := numbers(5)
	for range 300 {
		c := coefficients(next, 64)
		y := api.Pulses{int(next()%27) - 13, 1, -1, int(next()%27) - 13}
		keptC, keptY := c, y
		step, k := int(next()%18)-1, int(next()%15)-1
		Find(c, step, k)
		Distance(c, y, step)
		Coefs(y, step)
		if c != keptC || y != keptY {
			t.Fatalf("%d and %d became %d and %d", keptC, keptY, c, y)
		}
	}
}

// Rule 6: what a call answers hangs on its arguments alone, whatever was asked ahead of it.
func TestTwice(t *testing.T) {
	next := numbers(6)
	for range 300 {
		step, k := int(next()%16), int(next()%13)
		c := coefficients(next, gainByHand(step))
		y := mustFind(t, c, step, k)
		d, stands := Distance(c, y, step), Coefs(y, step)
		Find([4]int{math.MinInt, math.MaxInt}, step, k)
		Find(c, -1, k)
		mustFind(t, coefficients(next, gainByHand(15)), 15, 12)
		Distance(c, y, 16)
		Coefs(api.Pulses{13}, step)
		if mustFind(t, c, step, k) != y || Distance(c, y, step) != d || Coefs(y, step) != stands {
			t.Fatalf("another answer for %d, %d, %d", c, step, k)
		}
	}
}
