package mask

import (
	"math"
	"testing"

	"belfry/api"
)

// sides are steps, their budgets, and their moves, worked out by another program; the first one is the chapter's example.
var sides = []struct{ s, budgets, moves api.Side }{
	{api.Side{8, 0, 0, 0, 0, 0, 0, 0}, api.Side{1024, 512, 256, 128, 64, 32, 16, 8}, api.Side{4, 512, 256, 128, 64, 32, 16, 8}},
	{api.Side{0, 0, 0, 0, 0, 0, 0, 0}, api.Side{4, 4, 4, 4, 4, 4, 4, 4}, api.Side{4, 4, 4, 4, 4, 4, 4, 4}},
	{api.Side{15, 15, 15, 15, 15, 15, 15, 15}, api.Side{131072, 131072, 131072, 131072, 131072, 131072, 131072, 131072}, api.Side{4, 4, 4, 4, 4, 4, 4, 4}},
	{api.Side{0, 0, 0, 0, 0, 0, 0, 15}, api.Side{8, 32, 128, 512, 2048, 8192, 32768, 131072}, api.Side{8, 32, 128, 512, 2048, 8192, 32768, 4}},
	{api.Side{15, 0, 0, 0, 0, 0, 0, 0}, api.Side{131072, 65536, 32768, 16384, 8192, 4096, 2048, 1024}, api.Side{4, 65536, 32768, 16384, 8192, 4096, 2048, 1024}},
	{api.Side{0, 0, 0, 0, 15, 0, 0, 0}, api.Side{512, 2048, 8192, 32768, 131072, 65536, 32768, 16384}, api.Side{512, 2048, 8192, 32768, 4, 65536, 32768, 16384}},
	{api.Side{0, 1, 2, 3, 4, 5, 6, 7}, api.Side{4, 8, 16, 32, 64, 128, 256, 512}, api.Side{4, 4, 4, 4, 4, 4, 4, 4}},
	{api.Side{7, 6, 5, 4, 3, 2, 1, 0}, api.Side{512, 256, 128, 64, 32, 16, 8, 4}, api.Side{4, 4, 4, 4, 4, 4, 4, 4}},
	{api.Side{15, 14, 13, 12, 11, 10, 9, 8}, api.Side{131072, 65536, 32768, 16384, 8192, 4096, 2048, 1024}, api.Side{4, 4, 4, 4, 4, 4, 4, 4}},
	{api.Side{8, 9, 10, 11, 12, 13, 14, 15}, api.Side{1024, 2048, 4096, 8192, 16384, 32768, 65536, 131072}, api.Side{4, 4, 4, 4, 4, 4, 4, 4}},
	{api.Side{1, 0, 0, 0, 0, 0, 0, 0}, api.Side{8, 4, 4, 4, 4, 4, 4, 4}, api.Side{4, 4, 4, 4, 4, 4, 4, 4}},
	{api.Side{0, 0, 0, 0, 0, 0, 0, 1}, api.Side{4, 4, 4, 4, 4, 4, 4, 8}, api.Side{4, 4, 4, 4, 4, 4, 4, 4}},
	{api.Side{0, 0, 0, 0, 0, 0, 0, 3}, api.Side{4, 4, 4, 4, 4, 4, 8, 32}, api.Side{4, 4, 4, 4, 4, 4, 8, 4}},
	{api.Side{0, 5, 0, 0, 0, 0, 5, 0}, api.Side{32, 128, 64, 32, 16, 32, 128, 64}, api.Side{32, 4, 64, 32, 16, 32, 4, 64}},
	{api.Side{0, 15, 0, 15, 0, 15, 0, 15}, api.Side{32768, 131072, 65536, 131072, 65536, 131072, 65536, 131072}, api.Side{32768, 4, 65536, 4, 65536, 4, 65536, 4}},
	{api.Side{3, 0, 0, 0, 0, 0, 0, 0}, api.Side{32, 16, 8, 4, 4, 4, 4, 4}, api.Side{4, 16, 8, 4, 4, 4, 4, 4}},
	{api.Side{2, 0, 0, 0, 0, 0, 0, 2}, api.Side{16, 8, 4, 4, 4, 4, 4, 16}, api.Side{4, 8, 4, 4, 4, 4, 4, 4}},
	{api.Side{9, 7, 6, 2, 3, 0, 1, 0}, api.Side{2048, 1024, 512, 256, 128, 64, 32, 16}, api.Side{4, 8, 8, 64, 16, 64, 16, 16}},
	{api.Side{12, 11, 9, 9, 6, 5, 2, 0}, api.Side{16384, 8192, 4096, 2048, 1024, 512, 256, 128}, api.Side{4, 4, 8, 4, 16, 16, 64, 128}},
	{api.Side{13, 9, 11, 9, 5, 8, 3, 0}, api.Side{32768, 16384, 8192, 4096, 2048, 1024, 512, 256}, api.Side{4, 32, 4, 8, 64, 4, 64, 256}},
	{api.Side{7, 12, 13, 8, 10, 12, 4, 1}, api.Side{4096, 16384, 32768, 16384, 8192, 16384, 8192, 4096}, api.Side{32, 4, 4, 64, 8, 4, 512, 2048}},
	{api.Side{4, 6, 4, 6, 10, 3, 2, 9}, api.Side{64, 256, 256, 1024, 4096, 2048, 1024, 2048}, api.Side{4, 4, 16, 16, 4, 256, 256, 4}},
	{api.Side{13, 2, 15, 4, 13, 10, 0, 13}, api.Side{32768, 32768, 131072, 65536, 32768, 16384, 8192, 32768}, api.Side{4, 8192, 4, 4096, 4, 16, 8192, 4}},
	{api.Side{11, 1, 11, 1, 15, 11, 0, 12}, api.Side{8192, 4096, 8192, 32768, 131072, 65536, 32768, 16384}, api.Side{4, 2048, 4, 16384, 4, 32, 32768, 4}},
	{api.Side{7, 3, 6, 7, 11, 1, 8, 2}, api.Side{512, 256, 512, 2048, 8192, 4096, 2048, 1024}, api.Side{4, 32, 8, 16, 4, 2048, 8, 256}},
	{api.Side{8, 6, 4, 8, 9, 11, 10, 5}, api.Side{1024, 512, 256, 1024, 2048, 8192, 4096, 2048}, api.Side{4, 8, 16, 4, 4, 4, 4, 64}},
	{api.Side{10, 3, 8, 10, 0, 1, 11, 0}, api.Side{4096, 2048, 1024, 4096, 2048, 2048, 8192, 4096}, api.Side{4, 256, 4, 4, 2048, 1024, 4, 4096}},
	{api.Side{14, 8, 15, 1, 6, 9, 8, 2}, api.Side{65536, 32768, 131072, 65536, 32768, 16384, 8192, 4096}, api.Side{4, 128, 4, 32768, 512, 32, 32, 1024}},
	{api.Side{15, 0, 4, 12, 15, 12, 5, 6}, api.Side{131072, 65536, 32768, 32768, 131072, 65536, 32768, 16384}, api.Side{4, 65536, 2048, 8, 4, 16, 1024, 256}},
	{api.Side{8, 4, 3, 6, 1, 9, 10, 10}, api.Side{1024, 512, 256, 256, 512, 2048, 4096, 4096}, api.Side{4, 32, 32, 4, 256, 4, 4, 4}},
	{api.Side{1, 5, 13, 2, 9, 8, 12, 15}, api.Side{2048, 8192, 32768, 16384, 8192, 8192, 32768, 131072}, api.Side{1024, 256, 4, 4096, 16, 32, 8, 4}},
	{api.Side{0, 4, 0, 4, 1, 1, 4, 2}, api.Side{16, 64, 32, 64, 32, 16, 64, 32}, api.Side{16, 4, 32, 4, 16, 8, 4, 8}},
	{api.Side{4, 1, 2, 0, 3, 4, 3, 3}, api.Side{64, 32, 16, 8, 32, 64, 32, 32}, api.Side{4, 16, 4, 8, 4, 4, 4, 4}},
	{api.Side{1, 4, 3, 4, 3, 0, 3, 1}, api.Side{16, 64, 32, 64, 32, 16, 32, 16}, api.Side{8, 4, 4, 4, 4, 16, 4, 8}},
	{api.Side{1, 3, 2, 1, 2, 4, 0, 4}, api.Side{8, 32, 16, 8, 16, 64, 32, 64}, api.Side{4, 4, 4, 4, 4, 4, 32, 4}},
	{api.Side{4, 4, 3, 0, 2, 4, 1, 4}, api.Side{64, 64, 32, 16, 16, 64, 32, 64}, api.Side{4, 4, 4, 16, 4, 4, 16, 4}},
	{api.Side{1, 4, 2, 2, 1, 1, 2, 3}, api.Side{16, 64, 32, 16, 8, 8, 16, 32}, api.Side{8, 4, 8, 4, 4, 4, 4, 4}},
}

// fars are pulses, and how far they are from others, worked out by another program.
var fars = []struct {
	y, z api.Pulses
	want int
}{
	{api.Pulses{0, 0, 0, 0}, api.Pulses{0, 0, 0, 0}, 0},
	{api.Pulses{1, 2, 3, 4}, api.Pulses{1, 2, 3, 4}, 0},
	{api.Pulses{1, 2, 3, 4}, api.Pulses{-1, -2, -3, -4}, 20},
	{api.Pulses{1, 2, 3, 4}, api.Pulses{1, -2, 3, 5}, 5},
	{api.Pulses{12, 0, 0, 0}, api.Pulses{0, 0, 0, -12}, 24},
	{api.Pulses{3, 3, 3, 3}, api.Pulses{-3, -3, -3, -3}, 24},
	{api.Pulses{1048576, 1048576, 1048576, 1048576}, api.Pulses{-1048576, -1048576, -1048576, -1048576}, 8388608},
	{api.Pulses{-1048576, -1048576, -1048576, -1048576}, api.Pulses{1048576, 1048576, 1048576, 1048576}, 8388608},
	{api.Pulses{1048576, -1048576, 1048576, -1048576}, api.Pulses{1048576, -1048576, 1048576, -1048576}, 0},
	{api.Pulses{1048576, 0, 0, 0}, api.Pulses{-1048576, 0, 0, 0}, 2097152},
	{api.Pulses{0, 0, 0, -1048576}, api.Pulses{0, 0, 0, 1048576}, 2097152},
	{api.Pulses{1, 0, 0, 0}, api.Pulses{0, 0, 0, 0}, 1},
	{api.Pulses{0, 0, 0, 1}, api.Pulses{0, 0, 0, 0}, 1},
	{api.Pulses{5, -5, 0, 1}, api.Pulses{-5, 5, 1, 0}, 22},
	{api.Pulses{4, 3, 2, 1}, api.Pulses{1, 2, 3, 4}, 8},
	{api.Pulses{-1, 2, 6, -10}, api.Pulses{4, -9, 4, -12}, 20},
	{api.Pulses{-6, 6, 10, 5}, api.Pulses{12, -7, 2, 2}, 42},
	{api.Pulses{2, 4, -8, 5}, api.Pulses{5, 3, 2, -12}, 31},
	{api.Pulses{-3, -4, -7, -12}, api.Pulses{2, -2, 12, -2}, 36},
	{api.Pulses{-6, -11, -4, -9}, api.Pulses{4, 9, 10, -12}, 47},
	{api.Pulses{-12, -9, 3, 10}, api.Pulses{-3, 7, -6, 12}, 36},
	{api.Pulses{-9, 12, -12, 2}, api.Pulses{5, 12, -5, 8}, 27},
	{api.Pulses{-12, 0, -9, 1}, api.Pulses{-11, 11, 5, -11}, 38},
	{api.Pulses{-6, 5, -4, -4}, api.Pulses{-1, -1, 5, 6}, 30},
	{api.Pulses{1, 0, -12, 4}, api.Pulses{12, -2, -10, 12}, 23},
	{api.Pulses{-907960, 146083, 316160, 300497}, api.Pulses{-555903, 353358, -514837, -28281}, 1719107},
	{api.Pulses{1025373, 139709, 807569, -525823}, api.Pulses{20769, -98, -739435, 715066}, 3932304},
	{api.Pulses{253827, -208430, 976523, 484748}, api.Pulses{-510872, -152550, -412494, 183773}, 2510571},
	{api.Pulses{-699545, 779693, 786543, 580655}, api.Pulses{-402028, -450231, -358748, 281436}, 2971951},
	{api.Pulses{1019951, 132404, 659106, -772384}, api.Pulses{-58044, -341288, -415541, -60279}, 3338439},
}

// noBands are numbers of which there is no band; some of them are one by their rest, or times four.
var noBands = []int{
	-1, 8, -2, -7, -8, 9, 15, 16, 32, -32, 100, -100, 1 << 31, -1 << 31, 1 << 32, -1 << 32, 1<<32 + 1,
	1 << 61, 1 << 62, -1 << 62, 1<<62 + 1, math.MaxInt - 7, math.MaxInt, math.MinInt, math.MinInt + 1,
}

// noSteps are numbers that are no step.
var noSteps = []int{
	-1, 16, -2, 17, 31, 32, -15, -16, 62, 63, 64, 255, 256, -256, 1 << 31, -1 << 31, 1 << 32, -1 << 32, 1<<32 + 1,
	math.MaxInt - 1, math.MaxInt, math.MinInt, math.MinInt + 1,
}

// beyond are numbers whose differences aren't taken.
var beyond = []int{
	1<<20 + 1, -1<<20 - 1, 1 << 21, -1 << 21, 1 << 31, -1 << 31, 1 << 32, -1 << 32, 1<<32 + 1, 1 << 62, -1 << 62,
	math.MaxInt - 1, math.MaxInt, -math.MaxInt, math.MinInt, math.MinInt + 1,
}

// pulses are pulses that may be.
var pulses = []api.Pulses{
	{}, {1, 2, 3, 4}, {-1, -2, -3, -4}, {12, 0, 0, 0}, {0, 0, 0, -12}, {5, -5, 1, -1},
	{1 << 20, 1 << 20, 1 << 20, 1 << 20}, {-1 << 20, -1 << 20, -1 << 20, -1 << 20}, {1 << 20, -1 << 20, 0, 7},
}

// numbers answers a source of words that is the same in each run.
func numbers(seed uint64) func() uint64 {
	return func() uint64 {
		seed += 0x9e3779b97f4a7c15
		z := (seed ^ seed>>30) * 0xbf58476d1ce4e5b9
		z = (z ^ z>>27) * 0x94d049bb133111eb
		return z ^ z>>31
	}
}

// all answers steps that are all the same.
func all(step int) api.Side {
	var s api.Side
	for b := range s {
		s[b] = step
	}
	return s
}

// manySides are the steps of the table, all that have one louder than all others, and some of all kinds.
func manySides() []api.Side {
	var out []api.Side
	for _, x := range sides {
		out = append(out, x.s)
	}
	for at := range 8 {
		for step := range 16 {
			s := api.Side{}
			s[at] = step
			out = append(out, s)
		}
	}
	next := numbers(17)
	for i := range 1500 {
		var s api.Side
		for b := range s {
			s[b] = int(next() % uint64(2+i%15))
		}
		out = append(out, s)
	}
	return out
}

// near answers pulses that are so far from others, laid at all four places.
func near(y api.Pulses, far int) api.Pulses {
	signs := api.Pulses{1, -1, 1, -1}
	for i := range far {
		y[i%4] += signs[i%4]
	}
	return y
}

// gainByHand answers a step's gain by doublings.
func gainByHand(step int) int {
	gain := 1
	for range step {
		gain += gain
	}
	return gain
}

// leftByHand answers what the band j hides at b, band by band on the way from j to b.
func leftByHand(step, j, b int) int {
	left := 4 * gainByHand(step)
	for ; j < b; j++ {
		left /= 2
	}
	for ; j > b; j-- {
		left /= 2
		left /= 2
	}
	return left
}

// budgetByHand answers a budget by the chapter's words.
func budgetByHand(s api.Side, b int) int {
	greatest := 0
	for j := range 8 {
		if left := leftByHand(s[j], j, b); left > greatest {
			greatest = left
		}
	}
	return greatest
}

// farByHand answers a sum of differences: of each one the units from the lesser number to the greater.
func farByHand(y, z api.Pulses) int {
	sum := 0
	for i := range 4 {
		if y[i] < z[i] {
			sum += z[i] - y[i]
		} else {
			sum += y[i] - z[i]
		}
	}
	return sum
}

// 17.1: budgets and moves that another program worked out, the chapter's example among them.
func TestSides(t *testing.T) {
	for _, x := range sides {
		if got := All(x.s); got != x.budgets {
			t.Errorf("All(%v) = %v, want %v", x.s, got, x.budgets)
		}
		for b := range 8 {
			if got := Budget(x.s, b); got != x.budgets[b] {
				t.Errorf("Budget(%v, %d) = %d, want %d", x.s, b, got, x.budgets[b])
			}
			if got := Moves(x.s, b); got != x.moves[b] {
				t.Errorf("Moves(%v, %d) = %d, want %d", x.s, b, got, x.moves[b])
			}
		}
	}
}

// 17.1: the chapter's example, and steps that are all the same.
func TestExample(t *testing.T) {
	if got := All(api.Side{8, 0, 0, 0, 0, 0, 0, 0}); got != (api.Side{1024, 512, 256, 128, 64, 32, 16, 8}) {
		t.Errorf("All of the example = %v", got)
	}
	for step := range 16 {
		want := 4 * gainByHand(step)
		for b := range 8 {
			if got := Budget(all(step), b); got != want {
				t.Errorf("of steps %d Budget(%d) = %d, want %d", step, b, got, want)
			}
			if got := Moves(all(step), b); got != 4 {
				t.Errorf("of steps %d Moves(%d) = %d", step, b, got)
			}
		}
		if got := All(all(step)); got != all(want) {
			t.Errorf("All of steps %d = %v", step, got)
		}
	}
}

// 17.1: budgets by the chapter's words; a band louder than all others hides them, at each place, with each step.
func TestByHand(t *testing.T) {
	for _, s := range manySides() {
		old := s
		budgets := All(s)
		for b := range 8 {
			want := budgetByHand(s, b)
			if got := Budget(s, b); got != want {
				t.Fatalf("Budget(%v, %d) = %d, want %d", s, b, got, want)
			}
			if budgets[b] != want {
				t.Fatalf("All(%v)[%d] = %d, want %d", s, b, budgets[b], want)
			}
		}
		if s != old {
			t.Fatalf("%v was changed to %v", old, s)
		}
	}
}

// 17.1: upward it is halved once for each band, downward twice, and never less than a band's own.
func TestOneLoud(t *testing.T) {
	for at := range 8 {
		for step := range 16 {
			s := api.Side{}
			s[at] = step
			loud := 4 * gainByHand(step)
			for b := range 8 {
				want := loud
				if b > at {
					want = int(math.Floor(float64(loud) / math.Pow(2, float64(b-at))))
				}
				if b < at {
					want = int(math.Floor(float64(loud) / math.Pow(4, float64(at-b))))
				}
				want = max(want, 4)
				if got := Budget(s, b); got != want {
					t.Errorf("Budget(%v, %d) = %d, want %d", s, b, got, want)
				}
			}
		}
	}
}

// 17.1: what is halved is rounded down each time, once for each band upward, twice for each downward; what is halved away leaves 0.
func TestSlopes(t *testing.T) {
	for shift := 1; shift <= 2; shift++ {
		left := slope(shift)
		for loud := range 600 {
			want := loud
			for away := range 8 {
				if got := left(loud, away); got != want {
					t.Fatalf("of %d by %d, %d away, %d are left, want %d", loud, shift, away, got, want)
				}
				for range shift {
					want = want / 2
				}
			}
		}
	}
	if left := slope(2)(4, 7); left != 0 {
		t.Errorf("a step 0 above leaves %d", left)
	}
	if left := slope(1)(4, 7); left != 0 {
		t.Errorf("a step 0 below leaves %d", left)
	}
}

// 17.1: of no such band there is neither budget nor move, and nothing may become anything.
func TestNoBand(t *testing.T) {
	for _, b := range noBands {
		for _, s := range []api.Side{{}, all(15), {8, 0, 0, 0, 0, 0, 0, 0}, {0, 0, 0, 0, 0, 0, 0, 8}, {1, 2, 3, 4, 5, 6, 7, 8}, all(-1), all(16)} {
			if got := Budget(s, b); got != 0 {
				t.Errorf("Budget(%v, %d) = %d", s, b, got)
			}
			if got := Moves(s, b); got != 0 {
				t.Errorf("Moves(%v, %d) = %d", s, b, got)
			}
			for _, y := range pulses {
				if May(s, b, y, y) || May(s, b, y, near(y, 1)) {
					t.Errorf("May(%v, %d, %v, ..) = true", s, b, y)
				}
			}
		}
	}
}

// checkNothing holds that of steps that aren't right there is nothing.
func checkNothing(t *testing.T, s api.Side) {
	t.Helper()
	if got := All(s); got != (api.Side{}) {
		t.Errorf("All(%v) = %v", s, got)
	}
	for b := range 8 {
		if got := Budget(s, b); got != 0 {
			t.Errorf("Budget(%v, %d) = %d", s, b, got)
		}
		if got := Moves(s, b); got != 0 {
			t.Errorf("Moves(%v, %d) = %d", s, b, got)
		}
		for _, y := range pulses {
			if May(s, b, y, y) || May(s, b, y, api.Pulses{1, 0, 0, 0}) {
				t.Errorf("May(%v, %d, %v, ..) = true", s, b, y)
			}
		}
	}
}

// 17.1: of steps one of which is none, at any place, there is nothing of any band, not even of those that are right.
func TestNotRight(t *testing.T) {
	for _, x := range noSteps {
		for at := range 8 {
			for _, other := range []int{0, 7, 15} {
				s := all(other)
				s[at] = x
				checkNothing(t, s)
			}
		}
		checkNothing(t, all(x))
	}
	checkNothing(t, api.Side{-1, 16})
	checkNothing(t, api.Side{7: 16, 6: -1})
}

// 17.1: how far pulses are from others, by another program, and by the chapter's words; it is as far back.
func TestFars(t *testing.T) {
	for _, x := range fars {
		if got := Far(x.y, x.z); got != x.want {
			t.Errorf("Far(%v, %v) = %d, want %d", x.y, x.z, got, x.want)
		}
		if got := Far(x.z, x.y); got != x.want {
			t.Errorf("Far(%v, %v) = %d, want %d", x.z, x.y, got, x.want)
		}
	}
	next := numbers(171)
	for range 5000 {
		var y, z api.Pulses
		fewer := 43 + next()%20
		for i := range y {
			y[i], z[i] = int(next())>>fewer, int(next())>>fewer
		}
		givenY, givenZ := y, z
		if got, want := Far(y, z), farByHand(y, z); got != want {
			t.Fatalf("Far(%v, %v) = %d, want %d", y, z, got, want)
		}
		if y != givenY || z != givenZ {
			t.Fatalf("Far changed %v or %v", givenY, givenZ)
		}
	}
}

// 17.1: pulses that are the same are 0 away, those of all opposite signs twice their sizes, up to 2^20 at each place.
func TestSameAndOpposite(t *testing.T) {
	for _, y := range pulses {
		if got := Far(y, y); got != 0 {
			t.Errorf("Far(%v, %v) = %d", y, y, got)
		}
		var z api.Pulses
		sizes := 0
		for i, x := range y {
			z[i] = -x
			sizes += int(math.Abs(float64(x)))
		}
		if got := Far(y, z); got != 2*sizes {
			t.Errorf("Far(%v, %v) = %d, want %d", y, z, got, 2*sizes)
		}
	}
	for at := range 4 {
		var y, z api.Pulses
		y[at], z[at] = 1<<20, -1<<20
		for _, got := range []int{Far(y, z), Far(z, y)} {
			if got != 1<<21 {
				t.Errorf("from end to end at %d it is %d", at, got)
			}
		}
	}
}

// 17.1: a number beyond -2^20 to 2^20, at any place of either, even if it is the same one in both: -1, and it may not be.
func TestBeyond(t *testing.T) {
	for _, x := range beyond {
		for at := range 4 {
			for _, y := range pulses {
				z := y
				z[at] = x
				for _, both := range [][2]api.Pulses{{y, z}, {z, y}, {z, z}} {
					if got := Far(both[0], both[1]); got != -1 {
						t.Errorf("Far(%v, %v) = %d", both[0], both[1], got)
					}
					if May(all(0), at, both[0], both[1]) || May(api.Side{15}, 7, both[0], both[1]) {
						t.Errorf("May(.., %v, %v) = true", both[0], both[1])
					}
				}
			}
		}
	}
	ends := api.Pulses{math.MinInt, math.MaxInt, math.MinInt, math.MaxInt}
	if got := Far(ends, api.Pulses{math.MaxInt, math.MinInt, math.MaxInt, math.MinInt}); got != -1 {
		t.Errorf("Far of the least and the greatest ints = %d", got)
	}
}

// 17.1: what is moved is a budget's gains, rounded down: so many are within it, and one more isn't.
func TestMoves(t *testing.T) {
	for _, s := range manySides() {
		for b := range 8 {
			gain, budget := gainByHand(s[b]), budgetByHand(s, b)
			got := Moves(s, b)
			if got*gain > budget || (got+1)*gain <= budget {
				t.Fatalf("Moves(%v, %d) = %d, the budget is %d, the gain %d", s, b, got, budget, gain)
			}
		}
	}
}

// 17.1: pulses may become others whose differences are a budget just, or one less, or none, but not one more.
func TestMay(t *testing.T) {
	for _, s := range manySides()[:400] {
		for b := range 8 {
			most := budgetByHand(s, b) / gainByHand(s[b])
			for _, y := range pulses[:6] {
				for _, far := range []int{0, 1, most - 1, most} {
					if z := near(y, far); !May(s, b, y, z) {
						t.Fatalf("May(%v, %d, %v, %v) = false, %d of %d", s, b, y, z, far, most)
					}
				}
				for _, far := range []int{most + 1, most + 2, 2*most + 1} {
					if z := near(y, far); May(s, b, y, z) {
						t.Fatalf("May(%v, %d, %v, %v) = true, %d of %d", s, b, y, z, far, most)
					}
				}
			}
		}
	}
}

// 17.1: pulses from one end to the other are 2^23 away at most, more than the greatest budget has gains.
func TestFromEndToEnd(t *testing.T) {
	y, z := pulses[6], pulses[7]
	for at := range 8 {
		for b := range 8 {
			s := api.Side{}
			s[at] = 15
			if May(s, b, y, z) || May(s, b, z, y) {
				t.Errorf("May(%v, %d, %v, %v) = true", s, b, y, z)
			}
			if !May(s, b, y, y) || !May(s, b, z, z) {
				t.Errorf("%v or %v may not stay in %d of %v", y, z, b, s)
			}
		}
	}
}

// 17.2: a budget is 4 gains at least, so that 4 may be moved in every band.
func TestFourGains(t *testing.T) {
	for _, s := range manySides() {
		for b := range 8 {
			if got := Budget(s, b); got < 4*gainByHand(s[b]) {
				t.Fatalf("Budget(%v, %d) = %d", s, b, got)
			}
			if got := Moves(s, b); got < 4 {
				t.Fatalf("Moves(%v, %d) = %d", s, b, got)
			}
			if y := (api.Pulses{3, -2, 0, 1}); !May(s, b, y, near(y, 4)) {
				t.Fatalf("May(%v, %d, %v, %v) = false", s, b, y, near(y, 4))
			}
		}
	}
}

// 17.2: no budget is less, if any step is greater.
func TestGreaterSteps(t *testing.T) {
	for _, s := range manySides()[:500] {
		old := All(s)
		for at := range 8 {
			for g := s; g[at] < 15; {
				g[at]++
				for b, budget := range All(g) {
					if budget < old[b] {
						t.Fatalf("the budget of %d is %d of %v, but %d of %v", b, old[b], s, budget, g)
					}
				}
			}
		}
	}
}

// 17.2: what may become another may be that one's, too.
func TestBackAgain(t *testing.T) {
	next := numbers(172)
	met := map[bool]int{}
	for range 20000 {
		var s api.Side
		var y, z api.Pulses
		for b := range s {
			s[b] = int(next() % 5)
		}
		for i := range y {
			y[i], z[i] = int(next()%9)-4, int(next()%9)-4
		}
		b := int(next() % 8)
		old, givenY, givenZ := s, y, z
		may := May(s, b, y, z)
		if May(s, b, z, y) != may {
			t.Fatalf("May(%v, %d, %v, %v) = %v, but not back", s, b, y, z, may)
		}
		if want := farByHand(y, z)*gainByHand(s[b]) <= budgetByHand(s, b); may != want {
			t.Fatalf("May(%v, %d, %v, %v) = %v", s, b, y, z, may)
		}
		if s != old || y != givenY || z != givenZ {
			t.Fatalf("May changed %v, %v or %v", old, givenY, givenZ)
		}
		met[may]++
	}
	if met[true] < 2000 || met[false] < 2000 {
		t.Errorf("they may %d times, and may not %d times", met[true], met[false])
	}
}

// Rule 6: one call says nothing to another one.
func TestTwice(t *testing.T) {
	list := manySides()
	before := make([]api.Side, len(list))
	for i, s := range list {
		before[i] = All(s)
	}
	for i := len(list) - 1; i >= 0; i-- {
		Moves(all(16), i%8)
		Budget(all(15), -1)
		May(list[i], i%8, api.Pulses{math.MinInt}, api.Pulses{7})
		if got := All(list[i]); got != before[i] {
			t.Fatalf("the second time %v, the first time %v", got, before[i])
		}
		if got := Far(api.Pulses{1, 2, 3, 4}, api.Pulses{1, -2, 3, 5}); got != 5 {
			t.Fatalf("Far = %d, after other calls", got)
		}
	}
}
