package give

import (
	"container/heap"
	"math"
	"slices"
	"testing"

	"belfry/api"
)

const (
	mostPulses = 12      // how many pulses a band has at most
	allOfThem  = 104     // what 12 pulses in each band cost
	greatest   = 1048576 // 2^20, how many bits there may be at most
)

// given are steps, bits, how many pulses each band has of them, and what these cost, worked out by another program; the first one is the chapter's example.
var given = []struct {
	s    api.Side
	bits int
	k    [8]int
	cost int
}{
	{api.Side{5, 0, 0, 0, 0, 0, 0, 0}, 3, [8]int{1, 0, 0, 0, 0, 0, 0, 0}, 3},
	{api.Side{0, 0, 0, 0, 0, 0, 0, 0}, 0, [8]int{0, 0, 0, 0, 0, 0, 0, 0}, 0},
	{api.Side{0, 0, 0, 0, 0, 0, 0, 0}, 2, [8]int{0, 0, 0, 0, 0, 0, 0, 0}, 0},
	{api.Side{0, 0, 0, 0, 0, 0, 0, 0}, 3, [8]int{1, 0, 0, 0, 0, 0, 0, 0}, 3},
	{api.Side{0, 0, 0, 0, 0, 0, 0, 0}, 5, [8]int{2, 0, 0, 0, 0, 0, 0, 0}, 5},
	{api.Side{0, 0, 0, 0, 0, 0, 0, 0}, 24, [8]int{1, 1, 1, 1, 1, 1, 1, 1}, 24},
	{api.Side{0, 0, 0, 0, 0, 0, 0, 0}, 26, [8]int{2, 1, 1, 1, 1, 1, 1, 1}, 26},
	{api.Side{0, 0, 0, 0, 0, 0, 0, 0}, 32, [8]int{2, 2, 2, 2, 1, 1, 1, 1}, 32},
	{api.Side{0, 0, 0, 0, 0, 0, 0, 0}, 40, [8]int{2, 2, 2, 2, 2, 2, 2, 2}, 40},
	{api.Side{0, 0, 0, 0, 0, 0, 0, 0}, 56, [8]int{3, 3, 3, 3, 3, 3, 3, 3}, 56},
	{api.Side{0, 0, 0, 0, 0, 0, 0, 0}, 64, [8]int{4, 4, 4, 4, 4, 4, 4, 4}, 64},
	{api.Side{0, 0, 0, 0, 0, 0, 0, 0}, 80, [8]int{7, 7, 7, 7, 7, 7, 7, 7}, 80},
	{api.Side{0, 0, 0, 0, 0, 0, 0, 0}, 96, [8]int{11, 11, 11, 11, 11, 11, 11, 11}, 96},
	{api.Side{0, 0, 0, 0, 0, 0, 0, 0}, 103, [8]int{12, 12, 12, 12, 12, 12, 12, 11}, 103},
	{api.Side{0, 0, 0, 0, 0, 0, 0, 0}, 104, [8]int{12, 12, 12, 12, 12, 12, 12, 12}, 104},
	{api.Side{0, 0, 0, 0, 0, 0, 0, 0}, 128, [8]int{12, 12, 12, 12, 12, 12, 12, 12}, 104},
	{api.Side{0, 0, 0, 0, 0, 0, 0, 0}, 1 << 20, [8]int{12, 12, 12, 12, 12, 12, 12, 12}, 104},
	{api.Side{15, 15, 15, 15, 15, 15, 15, 15}, 3, [8]int{1, 0, 0, 0, 0, 0, 0, 0}, 3},
	{api.Side{15, 15, 15, 15, 15, 15, 15, 15}, 32, [8]int{2, 2, 2, 2, 1, 1, 1, 1}, 32},
	{api.Side{15, 15, 15, 15, 15, 15, 15, 15}, 72, [8]int{5, 5, 5, 5, 5, 5, 5, 5}, 72},
	{api.Side{15, 15, 15, 15, 15, 15, 15, 15}, 103, [8]int{12, 12, 12, 12, 12, 12, 12, 11}, 103},
	{api.Side{15, 15, 15, 15, 15, 15, 15, 15}, 104, [8]int{12, 12, 12, 12, 12, 12, 12, 12}, 104},
	{api.Side{15, 0, 0, 0, 0, 0, 0, 0}, 10, [8]int{7, 0, 0, 0, 0, 0, 0, 0}, 10},
	{api.Side{15, 0, 0, 0, 0, 0, 0, 0}, 13, [8]int{12, 0, 0, 0, 0, 0, 0, 0}, 13},
	{api.Side{15, 0, 0, 0, 0, 0, 0, 0}, 16, [8]int{12, 1, 0, 0, 0, 0, 0, 0}, 16},
	{api.Side{0, 0, 0, 0, 0, 0, 0, 15}, 9, [8]int{0, 0, 0, 0, 0, 0, 0, 5}, 9},
	{api.Side{0, 0, 0, 0, 0, 0, 0, 15}, 10, [8]int{0, 0, 0, 0, 0, 0, 0, 7}, 10},
	{api.Side{0, 0, 0, 0, 0, 0, 0, 15}, 12, [8]int{0, 0, 0, 0, 0, 0, 0, 11}, 12},
	{api.Side{0, 0, 0, 0, 0, 0, 0, 15}, 15, [8]int{0, 0, 0, 0, 0, 0, 0, 12}, 13},
	{api.Side{0, 0, 0, 0, 0, 0, 0, 15}, 16, [8]int{1, 0, 0, 0, 0, 0, 0, 12}, 16},
	{api.Side{0, 0, 0, 6, 0, 0, 0, 0}, 12, [8]int{0, 0, 0, 11, 0, 0, 0, 0}, 12},
	{api.Side{5, 6, 0, 0, 0, 0, 0, 0}, 5, [8]int{0, 2, 0, 0, 0, 0, 0, 0}, 5},
	{api.Side{5, 6, 0, 0, 0, 0, 0, 0}, 6, [8]int{1, 1, 0, 0, 0, 0, 0, 0}, 6},
	{api.Side{5, 6, 0, 0, 0, 0, 0, 0}, 7, [8]int{1, 1, 0, 0, 0, 0, 0, 0}, 6},
	{api.Side{6, 5, 0, 0, 0, 0, 0, 0}, 5, [8]int{2, 0, 0, 0, 0, 0, 0, 0}, 5},
	{api.Side{0, 0, 0, 0, 0, 0, 9, 10}, 5, [8]int{0, 0, 0, 0, 0, 0, 0, 2}, 5},
	{api.Side{7, 0, 9, 0, 9, 0, 7, 0}, 20, [8]int{1, 0, 3, 0, 3, 0, 1, 0}, 20},
	{api.Side{0, 1, 2, 3, 4, 5, 6, 7}, 32, [8]int{0, 0, 0, 1, 2, 3, 4, 5}, 32},
	{api.Side{7, 6, 5, 4, 3, 2, 1, 0}, 32, [8]int{5, 4, 3, 2, 1, 0, 0, 0}, 32},
	{api.Side{8, 9, 10, 11, 12, 13, 14, 15}, 48, [8]int{0, 1, 2, 2, 4, 4, 5, 7}, 48},
	{api.Side{8, 0, 8, 0, 8, 0, 8, 0}, 32, [8]int{4, 0, 4, 0, 4, 0, 4, 0}, 32},
	{api.Side{0, 15, 0, 15, 0, 15, 0, 15}, 64, [8]int{1, 12, 1, 12, 1, 12, 1, 12}, 64},
	{api.Side{0, 1, 0, 0, 0, 0, 0, 0}, 3, [8]int{0, 1, 0, 0, 0, 0, 0, 0}, 3},
	{api.Side{0, 0, 0, 0, 0, 0, 0, 1}, 3, [8]int{0, 0, 0, 0, 0, 0, 0, 1}, 3},
	{api.Side{0, 2, 1, 1, 0, 0, 1, 2}, 56, [8]int{3, 5, 4, 3, 2, 2, 3, 4}, 56},
	{api.Side{4, 1, 1, 1, 1, 1, 2, 4}, 64, [8]int{7, 4, 3, 3, 3, 3, 4, 7}, 64},
	{api.Side{0, 2, 3, 1, 3, 4, 2, 4}, 56, [8]int{1, 3, 4, 2, 4, 5, 3, 5}, 56},
	{api.Side{3, 4, 4, 1, 3, 1, 1, 1}, 56, [8]int{5, 7, 5, 2, 4, 2, 2, 2}, 56},
	{api.Side{2, 1, 2, 1, 2, 2, 1, 0}, 48, [8]int{4, 2, 4, 2, 3, 3, 2, 1}, 48},
	{api.Side{11, 6, 12, 0, 4, 2, 15, 12}, 49, [8]int{7, 2, 9, 0, 0, 0, 11, 9}, 49},
	{api.Side{1, 2, 2, 4, 2, 1, 3, 4}, 18, [8]int{0, 1, 0, 3, 0, 0, 1, 2}, 18},
	{api.Side{1, 0, 0, 1, 1, 1, 1, 1}, 72, [8]int{7, 5, 4, 5, 5, 5, 5, 5}, 72},
	{api.Side{2, 3, 0, 0, 2, 4, 1, 4}, 88, [8]int{9, 11, 7, 7, 9, 11, 7, 11}, 88},
	{api.Side{1, 0, 2, 1, 0, 1, 1, 0}, 52, [8]int{4, 2, 4, 3, 2, 3, 3, 2}, 52},
	{api.Side{8, 0, 4, 6, 0, 4, 6, 4}, 17, [8]int{5, 0, 0, 2, 0, 0, 1, 0}, 17},
	{api.Side{0, 1, 1, 1, 0, 0, 0, 1}, 28, [8]int{1, 2, 2, 2, 1, 1, 0, 1}, 27},
	{api.Side{12, 12, 9, 14, 0, 6, 6, 0}, 32, [8]int{7, 5, 1, 7, 0, 0, 0, 0}, 32},
	{api.Side{1, 1, 4, 1, 2, 0, 1, 1}, 86, [8]int{9, 9, 11, 9, 9, 7, 7, 7}, 86},
	{api.Side{1, 1, 0, 1, 2, 0, 2, 1}, 40, [8]int{2, 2, 1, 2, 3, 1, 3, 2}, 40},
	{api.Side{14, 9, 9, 0, 6, 6, 0, 5}, 72, [8]int{12, 11, 11, 1, 7, 7, 1, 5}, 72},
	{api.Side{1, 0, 1, 0, 1, 1, 0, 0}, 80, [8]int{7, 7, 7, 7, 7, 7, 7, 7}, 80},
	{api.Side{5, 8, 8, 4, 5, 3, 0, 1}, 80, [8]int{9, 11, 11, 7, 9, 7, 3, 3}, 80},
	{api.Side{1, 1, 5, 2, 5, 5, 0, 6}, 64, [8]int{3, 3, 7, 3, 7, 7, 1, 7}, 64},
	{api.Side{1, 0, 4, 0, 1, 4, 2, 1}, 30, [8]int{1, 0, 4, 0, 1, 4, 2, 1}, 30},
	{api.Side{10, 10, 8, 9, 11, 7, 15, 11}, 100, [8]int{12, 12, 11, 11, 12, 9, 12, 12}, 100},
	{api.Side{2, 0, 1, 1, 0, 1, 1, 0}, 96, [8]int{12, 11, 11, 11, 11, 11, 11, 9}, 96},
	{api.Side{4, 3, 4, 0, 6, 3, 6, 0}, 109, [8]int{12, 12, 12, 12, 12, 12, 12, 12}, 104},
	{api.Side{1, 6, 5, 7, 5, 8, 3, 6}, 102, [8]int{11, 12, 12, 12, 12, 12, 11, 12}, 102},
	{api.Side{0, 0, 1, 1, 1, 1, 1, 1}, 69, [8]int{4, 4, 5, 5, 5, 5, 5, 4}, 69},
	{api.Side{0, 1, 0, 2, 0, 1, 0, 1}, 64, [8]int{4, 5, 4, 5, 3, 4, 3, 4}, 64},
	{api.Side{1, 0, 1, 0, 1, 1, 0, 0}, 32, [8]int{2, 1, 2, 1, 2, 2, 1, 1}, 32},
	{api.Side{0, 0, 0, 0, 0, 1, 0, 0}, 64, [8]int{4, 4, 4, 4, 4, 5, 4, 3}, 64},
	{api.Side{12, 13, 1, 12, 6, 15, 10, 14}, 96, [8]int{12, 12, 3, 12, 9, 12, 12, 12}, 96},
	{api.Side{0, 2, 2, 2, 1, 2, 0, 2}, 32, [8]int{1, 2, 2, 2, 1, 2, 0, 2}, 31},
	{api.Side{1, 1, 1, 1, 1, 0, 1, 1}, 8, [8]int{2, 1, 0, 0, 0, 0, 0, 0}, 8},
	{api.Side{0, 1, 1, 0, 0, 0, 1, 0}, 96, [8]int{11, 11, 11, 11, 11, 11, 11, 11}, 96},
	{api.Side{2, 2, 0, 1, 0, 2, 1, 0}, 59, [8]int{5, 5, 3, 4, 2, 5, 3, 2}, 59},
	{api.Side{2, 0, 0, 2, 1, 1, 1, 2}, 88, [8]int{11, 9, 7, 9, 9, 9, 9, 9}, 88},
	{api.Side{4, 3, 3, 2, 3, 1, 3, 4}, 80, [8]int{9, 7, 7, 7, 7, 5, 7, 7}, 80},
	{api.Side{7, 4, 6, 3, 1, 4, 0, 0}, 61, [8]int{9, 7, 9, 5, 2, 5, 1, 1}, 61},
	{api.Side{11, 1, 9, 1, 10, 5, 11, 7}, 72, [8]int{11, 1, 9, 1, 11, 5, 11, 7}, 72},
	{api.Side{0, 1, 0, 1, 2, 1, 1, 0}, 96, [8]int{11, 11, 11, 11, 12, 11, 11, 9}, 96},
	{api.Side{2, 5, 4, 6, 0, 3, 1, 4}, 36, [8]int{1, 5, 3, 5, 0, 1, 0, 2}, 36},
	{api.Side{14, 13, 14, 5, 15, 15, 11, 1}, 96, [8]int{12, 12, 12, 9, 12, 12, 12, 3}, 96},
}

// wrongSteps are numbers that are no step.
var wrongSteps = []int{
	-1, 16, -2, 17, 31, 32, -15, -16, 63, 64, 255, 256, -256, 1 << 31, -1 << 31, 1 << 32, -1 << 32, 1<<32 + 1,
	math.MaxInt - 1, math.MaxInt, math.MinInt, math.MinInt + 1,
}

// wrongBits are numbers of bits that may not be.
var wrongBits = []int{
	-1, greatest + 1, -2, greatest + 2, -3, -24, 2 * greatest, -greatest, -greatest - 1, 1 << 31, -1 << 31, 1 << 32, -1 << 32, 1<<32 + 3,
	math.MaxInt - 1, math.MaxInt, math.MinInt, math.MinInt + 1, math.MinInt + 3,
}

// wrongCounts are numbers of pulses that a band can't have.
var wrongCounts = []int{
	-1, 13, -2, 14, -12, -13, 24, 256, 1 << 31, -1 << 31, 1 << 32, 1<<32 + 1, math.MaxInt - 1, math.MaxInt, math.MinInt, math.MinInt + 1,
}

// wrongSizes are sizes that no packet has; some of them are one by their rest.
var wrongSizes = []int{
	11, 25, 0, -1, 1, 8, 9, 10, 26, 32, -11, -12, -24, -25, 100, 256 + 12, 1 << 31, -1 << 31, 1<<32 + 12, -1<<32 + 24, 1<<61 + 12, 1<<61 + 24, 1 << 60,
	math.MaxInt - 1, math.MaxInt, math.MinInt, math.MinInt + 1, math.MinInt + 12, math.MinInt + 24,
}

// numbers answers a source of words that is the same in each run.
func numbers(seed uint64) func() uint64 {
	return func() uint64 {
		seed += 0x9e3779b97f4a7c15
		z := (seed ^ seed>>30) * 0xbf58476d1ce4e5b9
		z = (z ^ z>>27) * 0x94d049bb133111eb
		return z ^ z>>31
	}
}

// all answers bands that are all the same.
func all(x int) [8]int { return [8]int{x, x, x, x, x, x, x, x} }

// with answers bands, but for one.
func with(l [8]int, at, x int) [8]int {
	l[at] = x
	return l
}

// manySides are the steps of the table, all that are the same, all that have one unlike all others, and some of all kinds.
func manySides() []api.Side {
	var out []api.Side
	for _, x := range given {
		out = append(out, x.s)
	}
	for step := range 16 {
		out = append(out, all(step))
		for at := range 8 {
			out = append(out, with(all(0), at, step), with(all(15), at, step))
		}
	}
	next := numbers(18)
	for i := range 300 {
		var s api.Side
		for b := range s {
			s[b] = int(next() % uint64(2+i%15))
		}
		out = append(out, s)
	}
	return out
}

// countedByHand answers how many vectors of 4 numbers there are with so many pulses, gone through one by one, by how many pulses they have.
func countedByHand() [mostPulses + 1]int {
	var sizes []int
	for x := -mostPulses; x <= mostPulses; x++ {
		sizes = append(sizes, max(x, -x))
	}
	var counts [mostPulses + 1]int
	for _, a := range sizes {
		for _, b := range sizes {
			for _, c := range sizes {
				for _, d := range sizes {
					if sum := a + b + c + d; sum <= mostPulses {
						counts[sum]++
					}
				}
			}
		}
	}
	return counts
}

// costsByHand answers what each number of pulses costs: of so many bits there are twice as many numbers as of one fewer.
func costsByHand() [mostPulses + 1]int {
	var out [mostPulses + 1]int
	for k, count := range countedByHand() {
		for numbers := 1; numbers < count; numbers *= 2 {
			out[k]++
		}
	}
	return out
}

// hand gives pulses by the chapter's words.
type hand struct {
	cost [mostPulses + 1]int
}

// sum answers what pulses cost together.
func (h hand) sum(k [8]int) int {
	sum := 0
	for _, n := range k {
		sum += h.cost[n]
	}
	return sum
}

// can tells whether a band can have one more.
func (h hand) can(k [8]int, b, bits int) bool {
	if k[b] >= mostPulses {
		return false
	}
	return h.cost[k[b]+1]-h.cost[k[b]] <= bits-h.sum(k)
}

// next answers the band that has one more, or -1, by looking at all bands.
func (h hand) next(s api.Side, k [8]int, bits int) int {
	best := -1
	for b := range 8 {
		if h.can(k, b, bits) && (best < 0 || s[b]-k[b] > s[best]-k[best]) {
			best = b
		}
	}
	return best
}

// pulses answers how many pulses each band has.
func (h hand) pulses(s api.Side, bits int) [8]int {
	var k [8]int
	for b := h.next(s, k, bits); b >= 0; b = h.next(s, k, bits) {
		k[b]++
	}
	return k
}

// must answers the pulses of steps and bits that may be.
func must(t *testing.T, s api.Side, bits int) [8]int {
	t.Helper()
	k, e := Pulses(s, bits)
	if e != api.OK {
		t.Fatalf("Pulses(%v, %d) = %v, %d", s, bits, k, e)
	}
	return k
}

// refused holds that there are no pulses of steps or bits that may not be.
func refused(t *testing.T, s api.Side, bits int) {
	t.Helper()
	if k, e := Pulses(s, bits); k != all(0) || e != api.ErrArg {
		t.Errorf("Pulses(%v, %d) = %v, %d", s, bits, k, e)
	}
}

// 18.1: pulses that another program gave, the chapter's example among them, and what they cost.
func TestGiven(t *testing.T) {
	for _, x := range given {
		if k := must(t, x.s, x.bits); k != x.k {
			t.Errorf("Pulses(%v, %d) = %v, want %v", x.s, x.bits, k, x.k)
		}
		if n := Cost(x.k); n != x.cost {
			t.Errorf("Cost(%v) = %d, want %d", x.k, n, x.cost)
		}
	}
}

// 18.1: the chapter's example.
func TestExample(t *testing.T) {
	if k := must(t, api.Side{5, 0, 0, 0, 0, 0, 0, 0}, 3); k != ([8]int{1, 0, 0, 0, 0, 0, 0, 0}) {
		t.Errorf("of the example %v", k)
	}
}

// 18.1: pulses by the chapter's words, at every number of bits until all bands have all, and beyond.
func TestByHand(t *testing.T) {
	h := hand{costsByHand()}
	for _, s := range manySides() {
		kept := s
		for bits := range allOfThem + 20 {
			if k, want := must(t, s, bits), h.pulses(s, bits); k != want {
				t.Fatalf("Pulses(%v, %d) = %v, want %v", s, bits, k, want)
			}
		}
		if s != kept {
			t.Fatalf("%v was changed to %v", kept, s)
		}
	}
}

// 18.1: of no bits there are no pulses, nor of 1 or 2, as a first pulse costs 3; of 3 there is one, of 4, too, in the loudest band.
func TestFirstPulse(t *testing.T) {
	for _, s := range manySides() {
		loudest := 0
		for b, step := range s {
			if step > s[loudest] {
				loudest = b
			}
		}
		for bits := range 3 {
			if k := must(t, s, bits); k != all(0) {
				t.Errorf("Pulses(%v, %d) = %v", s, bits, k)
			}
		}
		for bits := 3; bits <= 4; bits++ {
			if k := must(t, s, bits); k != with(all(0), loudest, 1) {
				t.Errorf("Pulses(%v, %d) = %v", s, bits, k)
			}
		}
	}
}

// 18.1: of as many bits as all bands' 12 pulses cost, or more, up to 2^20, each band has 12; of one bit fewer one band has but 11.
func TestAllPulses(t *testing.T) {
	for _, s := range manySides() {
		for _, bits := range []int{allOfThem, allOfThem + 1, 105, 128, 200, 1000, 10000, greatest - 1, greatest} {
			if k := must(t, s, bits); k != all(mostPulses) {
				t.Errorf("Pulses(%v, %d) = %v", s, bits, k)
			}
		}
		k := must(t, s, allOfThem-1)
		slices.Sort(k[:])
		if k != with(all(mostPulses), 0, mostPulses-1) {
			t.Errorf("Pulses(%v, %d) = %v, sorted", s, allOfThem-1, k)
		}
	}
}

// 18.1: of steps that are all the same each band has one more in its turn, the first band first.
func TestTies(t *testing.T) {
	for step := range 16 {
		for n := range 9 {
			want := all(0)
			for b := range n {
				want[b] = 1
			}
			if k := must(t, all(step), 3*n); k != want {
				t.Errorf("of steps %d and %d bits %v, want %v", step, 3*n, k, want)
			}
			want = all(1)
			for b := range n {
				want[b] = 2
			}
			if k := must(t, all(step), 24+2*n); k != want {
				t.Errorf("of steps %d and %d bits %v, want %v", step, 24+2*n, k, want)
			}
		}
	}
	for a := range 8 {
		for b := a + 1; b < 8; b++ {
			s := with(with(all(0), a, 9), b, 9)
			if k := must(t, s, 3); k != with(all(0), a, 1) {
				t.Errorf("Pulses(%v, 3) = %v", s, k)
			}
			if k := must(t, s, 6); k != with(with(all(0), a, 1), b, 1) {
				t.Errorf("Pulses(%v, 6) = %v", s, k)
			}
		}
	}
}

// 18.1: one band that is louder than all others has all pulses of few bits, at each place; one that is softer has none.
func TestOneLoud(t *testing.T) {
	h := hand{costsByHand()}
	for at := range 8 {
		for k, cost := range h.cost {
			if k < mostPulses && h.cost[k+1] == cost { // one more costs nothing
				k++
			}
			if got := must(t, with(all(0), at, 15), cost); got != with(all(0), at, k) {
				t.Errorf("of one at %d and %d bits %v, want %d there", at, cost, got, k)
			}
		}
		soft := with(all(15), at, 0)
		for bits := range allOfThem - h.cost[mostPulses] + 3 {
			if k := must(t, soft, bits); k[at] != 0 {
				t.Errorf("Pulses(%v, %d) = %v", soft, bits, k)
			}
		}
	}
}

// 18.1: a band that would be next but can't pay is passed by for a later one that can.
func TestCannotPay(t *testing.T) {
	for _, x := range []struct {
		s    api.Side
		bits int
		want [8]int
	}{
		{api.Side{5, 6}, 5, [8]int{0, 2}},        // behind the second one's first pulse both are at 5, but the first one would need 3 of 2 bits
		{api.Side{5, 6}, 4, [8]int{0, 1}},        // neither can pay with 1 bit
		{api.Side{5, 6}, 6, [8]int{1, 1}},        // the first one can pay
		{api.Side{9, 10}, 8, [8]int{1, 2}},       // both have one, and the second one is next with 2 bits
		{api.Side{0: 9, 7: 10}, 5, [8]int{7: 2}}, // likewise from end to end
		{api.Side{0: 10, 7: 10}, 5, [8]int{2}},   // the last one would be next, and an earlier one can pay
		{api.Side{10, 0, 0, 9, 0, 0, 0, 9}, 5, [8]int{2}},
		{api.Side{11, 14}, 8, [8]int{0, 4}}, // with 7 of 8 bits taken the first one would be next
		{api.Side{14, 11}, 8, [8]int{4}},
		{api.Side{15, 15, 14}, 18, [8]int{4, 3, 1}}, // one by one: 3 3 2 2 3 2 2 are 17, and of 1 bit the third one, which would be next, can't have 2
	} {
		if k := must(t, x.s, x.bits); k != x.want {
			t.Errorf("Pulses(%v, %d) = %v, want %v", x.s, x.bits, k, x.want)
		}
	}
}

// 18.1: a pulse that costs nothing is given of no bits, too: the seventh, the ninth and the eleventh.
func TestFreePulses(t *testing.T) {
	for at := range 8 {
		for bits, want := range map[int]int{9: 5, 10: 7, 11: 9, 12: 11, 13: 12, 14: 12, 15: 12} {
			if k := must(t, with(all(0), at, 15), bits); k != with(all(0), at, want) {
				t.Errorf("of one at %d and %d bits %v, want %d there", at, bits, k, want)
			}
		}
	}
	if k := must(t, all(0), 80); k != all(7) {
		t.Errorf("of 80 bits %v", k)
	}
}

// 18.1: steps that aren't right have no pulses, whatever the bits are: a wrong one at each place.
func TestWrongSteps(t *testing.T) {
	for _, bits := range append([]int{0, 1, 3, 32, allOfThem, 128, greatest}, wrongBits...) {
		for _, x := range wrongSteps {
			for at := range 8 {
				for _, other := range []int{0, 7, 15} {
					refused(t, with(all(other), at, x), bits)
				}
			}
			refused(t, all(x), bits)
		}
		refused(t, api.Side{-1, 16}, bits)
		refused(t, api.Side{7: 16, 6: -1}, bits)
		refused(t, api.Side{math.MinInt, math.MaxInt, math.MinInt, math.MaxInt}, bits)
	}
}

// 18.1: bits that aren't from 0 to 2^20 give no pulses, whatever the steps are.
func TestWrongBits(t *testing.T) {
	for _, bits := range wrongBits {
		for _, s := range manySides() {
			refused(t, s, bits)
		}
	}
	for _, bits := range []int{0, greatest} {
		must(t, all(0), bits)
		must(t, all(15), bits)
	}
}

// 18.1: what no pulses cost, 12 in each band, so many in one band, at each place.
func TestCost(t *testing.T) {
	if n := Cost(all(0)); n != 0 {
		t.Errorf("no pulses cost %d", n)
	}
	if n := Cost(all(mostPulses)); n != allOfThem {
		t.Errorf("all pulses cost %d", n)
	}
	if n := Cost([8]int{1, 2, 3, 0, 0, 0, 0, 0}); n != 15 {
		t.Errorf("1, 2 and 3 pulses cost %d", n)
	}
	for k, cost := range [mostPulses + 1]int{0, 3, 5, 7, 8, 9, 10, 10, 11, 11, 12, 12, 13} {
		for at := range 8 {
			if n := Cost(with(all(0), at, k)); n != cost {
				t.Errorf("%d pulses at %d cost %d, want %d", k, at, n, cost)
			}
		}
		if n := Cost(all(k)); n != 8*cost {
			t.Errorf("%d pulses in each band cost %d, want %d", k, n, 8*cost)
		}
	}
	if costs := costsByHand(); costs != allCosts() {
		t.Errorf("pulses cost %v, by hand %v", allCosts(), costs)
	}
}

// 18.1: pulses of all kinds cost what their vectors, gone through one by one, need.
func TestCostByHand(t *testing.T) {
	h, next := hand{costsByHand()}, numbers(181)
	for range 5000 {
		var k [8]int
		for b := range k {
			k[b] = int(next() % 13)
		}
		kept := k
		if n, want := Cost(k), h.sum(k); n != want {
			t.Fatalf("Cost(%v) = %d, want %d", k, n, want)
		}
		if k != kept {
			t.Fatalf("%v was changed to %v", kept, k)
		}
	}
}

// 18.1: pulses that a band can't have cost nothing, as chapter 13 counts no bits of them; what others cost stays.
func TestCostOfWrongCounts(t *testing.T) {
	for _, x := range wrongCounts {
		for at := range 8 {
			if n := Cost(with(all(0), at, x)); n != 0 {
				t.Errorf("%d pulses at %d cost %d", x, at, n)
			}
			if n := Cost(with(all(1), at, x)); n != 21 {
				t.Errorf("%d pulses at %d, and 7 others, cost %d", x, at, n)
			}
		}
		if n := Cost(all(x)); n != 0 {
			t.Errorf("%d pulses in each band cost %d", x, n)
		}
	}
}

// 18.2: a packet's bits for pulses: its number, its steps and its seal take 64.
func TestBits(t *testing.T) {
	for at, want := range []int{32, 40, 48, 56, 64, 72, 80, 88, 96, 104, 112, 120, 128} {
		if n := Bits(12 + at); n != want {
			t.Errorf("Bits(%d) = %d, want %d", 12+at, n, want)
		}
		if n := 16 + 8*4 + Bits(12+at) + 16; n != 8*(12+at) {
			t.Errorf("a packet of %d bytes has %d bits", 12+at, n)
		}
	}
}

// 18.2: a size that no packet has, has no bits.
func TestBitsOfWrongSizes(t *testing.T) {
	for _, size := range wrongSizes {
		if n := Bits(size); n != 0 {
			t.Errorf("Bits(%d) = %d", size, n)
		}
	}
	for size := -300; size < 600; size++ {
		if n := Bits(size); n != 0 && (size < 12 || size > 24) {
			t.Errorf("Bits(%d) = %d", size, n)
		}
	}
}

// settled holds that what is given costs no more than there is, and that no band can have one more then.
func settled(t *testing.T, h hand, s api.Side, bits int) {
	t.Helper()
	k := must(t, s, bits)
	for b, n := range k {
		if n < 0 || n > mostPulses {
			t.Fatalf("Pulses(%v, %d) = %v: %d in the band %d", s, bits, k, n, b)
		}
	}
	cost := Cost(k)
	if cost > bits || cost != h.sum(k) {
		t.Fatalf("Pulses(%v, %d) = %v, which cost %d", s, bits, k, cost)
	}
	for b, n := range k {
		if n == mostPulses {
			continue
		}
		if more := Cost(with(k, b, n+1)); more <= bits {
			t.Fatalf("Pulses(%v, %d) = %v, but with one more in the band %d it is %d", s, bits, k, b, more)
		}
	}
}

// 18.3: at every number of bits to some hundreds, of each packet's size, and of many more bits.
func TestSettled(t *testing.T) {
	h := hand{costsByHand()}
	list := manySides()
	for i, s := range list {
		most := allOfThem + 10
		if i%10 == 0 {
			most = 400
		}
		for bits := range most {
			settled(t, h, s, bits)
		}
		for size := 12; size <= 24; size++ {
			settled(t, h, s, Bits(size))
		}
		for _, bits := range []int{1000, 65536, greatest - 1, greatest} {
			settled(t, h, s, bits)
		}
	}
}

// 18.3: likewise of all steps of 0 and 1, and of 0 and 15, so that they tie in every way.
func TestSettledTies(t *testing.T) {
	h := hand{costsByHand()}
	for loud := range 256 {
		for _, step := range []int{1, 15} {
			s := api.Side{}
			for b := range s {
				s[b] = step * (loud >> b & 1)
			}
			for bits := loud % 3; bits <= allOfThem; bits += 3 {
				settled(t, h, s, bits)
				if k, want := must(t, s, bits), h.pulses(s, bits); k != want {
					t.Fatalf("Pulses(%v, %d) = %v, want %v", s, bits, k, want)
				}
			}
		}
	}
}

// The way of 18.1: things come out of a queue in the order of its function, whatever they are and however they went in.
func TestQueue(t *testing.T) {
	next := numbers(182)
	for n := range 60 {
		q := &queue[int]{ahead: func(a, b int) bool { return a > b }}
		var want []int
		for range n {
			x := int(next() % 20)
			want = append(want, x)
			heap.Push(q, x)
		}
		slices.Sort(want)
		slices.Reverse(want)
		for i, x := range want {
			if got := q.take(); got != x || q.Len() != n-1-i {
				t.Fatalf("of %v the place %d is %d, and %d are left", want, i, got, q.Len())
			}
		}
	}
	words := &queue[string]{ahead: func(a, b string) bool { return len(a) < len(b) }}
	for _, s := range []string{"steeple", "bell", "bells", "to", "rope"} {
		heap.Push(words, s)
	}
	if a := words.take(); a != "to" {
		t.Errorf("the shortest is %s", a)
	}
}

// Rules 4 and 6: one call says nothing to another one, whether it is refused or not, and what comes in stays.
func TestTwice(t *testing.T) {
	list := manySides()
	next := numbers(183)
	before := make([][8]int, len(list))
	for i, s := range list {
		before[i] = must(t, s, 3*i%130)
	}
	for i := len(list) - 1; i >= 0; i-- {
		s := list[i]
		Pulses(all(16), i)
		Pulses(s, -1)
		Pulses(s, int(next()%200))
		Bits(i % 30)
		cost := Cost(before[i])
		Cost(all(13))
		if k := must(t, s, 3*i%130); k != before[i] || Cost(k) != cost {
			t.Fatalf("Pulses(%v, %d) = %v, the first time %v", s, 3*i%130, k, before[i])
		}
		if s != list[i] {
			t.Fatalf("%v was changed to %v", list[i], s)
		}
	}
}
