package fade

import (
	"math"
	"math/big"
	"slices"
	"testing"

	"belfry/api"
)

const mostCoef = 1048576 // 2^20, the greatest coefficient

// scaled are coefficients, and what they are for the first, the second and the third frame that didn't come, worked out by another program.
var scaled = [][4]int{
	{0, 0, 0, 0}, {1, 0, 0, 0}, {-1, 0, 0, 0}, {2, 1, 1, 0},
	{-2, -1, -1, 0}, {3, 2, 1, 0}, {-3, -2, -1, 0}, {4, 3, 2, 1},
	{-4, -3, -2, -1}, {5, 3, 2, 1}, {-5, -3, -2, -1}, {6, 4, 3, 1},
	{-6, -4, -3, -1}, {7, 5, 3, 1}, {-7, -5, -3, -1}, {8, 6, 4, 2},
	{-8, -6, -4, -2}, {9, 6, 4, 2}, {-9, -6, -4, -2}, {10, 7, 5, 2},
	{-10, -7, -5, -2}, {11, 8, 5, 2}, {-11, -8, -5, -2}, {100, 75, 50, 25},
	{-100, -75, -50, -25}, {700, 525, 350, 175}, {-700, -525, -350, -175}, {32768, 24576, 16384, 8192},
	{-32768, -24576, -16384, -8192}, {1048573, 786429, 524286, 262143}, {-1048573, -786429, -524286, -262143}, {1048574, 786430, 524287, 262143},
	{-1048574, -786430, -524287, -262143}, {1048575, 786431, 524287, 262143}, {-1048575, -786431, -524287, -262143}, {1048576, 786432, 524288, 262144},
	{-1048576, -786432, -524288, -262144}, {1048577, 786432, 524288, 262144}, {-1048577, -786432, -524288, -262144}, {4611686018427387903, 3458764513820540927, 2305843009213693951, 1152921504606846975},
	{-4611686018427387903, -3458764513820540927, -2305843009213693951, -1152921504606846975}, {4611686018427387904, 3458764513820540928, 2305843009213693952, 1152921504606846976}, {-4611686018427387904, -3458764513820540928, -2305843009213693952, -1152921504606846976}, {4611686018427387905, 3458764513820540928, 2305843009213693952, 1152921504606846976},
	{-4611686018427387905, -3458764513820540928, -2305843009213693952, -1152921504606846976}, {3074457345618258602, 2305843009213693951, 1537228672809129301, 768614336404564650}, {-3074457345618258602, -2305843009213693951, -1537228672809129301, -768614336404564650}, {3074457345618258603, 2305843009213693952, 1537228672809129301, 768614336404564650},
	{-3074457345618258603, -2305843009213693952, -1537228672809129301, -768614336404564650}, {9223372036854775806, 6917529027641081854, 4611686018427387903, 2305843009213693951}, {-9223372036854775806, -6917529027641081854, -4611686018427387903, -2305843009213693951}, {9223372036854775807, 6917529027641081855, 4611686018427387903, 2305843009213693951},
	{-9223372036854775807, -6917529027641081855, -4611686018427387903, -2305843009213693951}, {3424, 2568, 1712, 856}, {-3424, -2568, -1712, -856}, {67427899569558, 50570924677168, 33713949784779, 16856974892389},
	{-67427899569558, -50570924677168, -33713949784779, -16856974892389}, {34201940378912024, 25651455284184018, 17100970189456012, 8550485094728006}, {-34201940378912024, -25651455284184018, -17100970189456012, -8550485094728006}, {4252415025833878, 3189311269375408, 2126207512916939, 1063103756458469},
	{-4252415025833878, -3189311269375408, -2126207512916939, -1063103756458469}, {127191175164461, 95393381373345, 63595587582230, 31797793791115}, {-127191175164461, -95393381373345, -63595587582230, -31797793791115}, {28735419, 21551564, 14367709, 7183854},
	{-28735419, -21551564, -14367709, -7183854}, {18, 13, 9, 4}, {-18, -13, -9, -4}, {2091948652791135, 1568961489593351, 1045974326395567, 522987163197783},
	{-2091948652791135, -1568961489593351, -1045974326395567, -522987163197783}, {1007321151381601906, 755490863536201429, 503660575690800953, 251830287845400476}, {-1007321151381601906, -755490863536201429, -503660575690800953, -251830287845400476}, {38360250610058, 28770187957543, 19180125305029, 9590062652514},
	{-38360250610058, -28770187957543, -19180125305029, -9590062652514}, {8347542, 6260656, 4173771, 2086885}, {-8347542, -6260656, -4173771, -2086885}, {3270052578532, 2452539433899, 1635026289266, 817513144633},
	{-3270052578532, -2452539433899, -1635026289266, -817513144633}, {362, 271, 181, 90}, {-362, -271, -181, -90}, {20, 15, 10, 5},
	{-20, -15, -10, -5}, {-9223372036854775808, -6917529027641081856, -4611686018427387904, -2305843009213693952},
}

// filled are streams whose frames have but one coefficient, which tells that it didn't come where it is none, and what they are filled to; the first is the chapter's example.
var filled = []struct {
	l    []int
	want []int
}{
	{[]int{100, none, none}, []int{100, 75, 50}},
	{[]int{100}, []int{100}},
	{[]int{none}, []int{0}},
	{[]int{none, none, none, none, none, none}, []int{0, 0, 0, 0, 0, 0}},
	{[]int{100, 200, 300}, []int{100, 200, 300}},
	{[]int{none, 100}, []int{0, 100}},
	{[]int{none, none, none, none, 100, none}, []int{0, 0, 0, 0, 100, 75}},
	{[]int{100, none}, []int{100, 75}},
	{[]int{100, none, none, none}, []int{100, 75, 50, 25}},
	{[]int{100, none, none, none, none}, []int{100, 75, 50, 25, 0}},
	{[]int{100, none, none, none, none, none}, []int{100, 75, 50, 25, 0, 0}},
	{[]int{100, none, none, none, none, none, none, none, none, none}, []int{100, 75, 50, 25, 0, 0, 0, 0, 0, 0}},
	{[]int{100, none, 200, none, none, -300, none, none, none}, []int{100, 75, 200, 150, 100, -300, -225, -150, -75}},
	{[]int{100, none, none, none, none, none, 40, none, none, none, none, none, 80}, []int{100, 75, 50, 25, 0, 0, 40, 30, 20, 10, 0, 0, 80}},
	{[]int{100, none, 0, none, none}, []int{100, 75, 0, 0, 0}},
	{[]int{100, 8, none, none}, []int{100, 8, 6, 4}},
	{[]int{none, 7, none, none, none, none}, []int{0, 7, 5, 3, 1, 0}},
	{[]int{none, -7, none, none, none, none}, []int{0, -7, -5, -3, -1, 0}},
	{[]int{1, none, none, none, none}, []int{1, 0, 0, 0, 0}},
	{[]int{-1, none, none, none, none}, []int{-1, 0, 0, 0, 0}},
	{[]int{5, none, none, none, none}, []int{5, 3, 2, 1, 0}}, // not 3, 1, 0, as if each were made of the one ahead
	{[]int{1048576, none, none, none, none}, []int{1048576, 786432, 524288, 262144, 0}},
	{[]int{-1048576, none, none, none, none}, []int{-1048576, -786432, -524288, -262144, 0}},
	{[]int{math.MaxInt, none, none, none, none}, []int{math.MaxInt, 6917529027641081855, 4611686018427387903, 2305843009213693951, 0}},
}

// cuts are samples, and what they are cut to.
var cuts = [][2]int{
	{0, 0}, {1, 1}, {-1, -1}, {5, 5}, {-5, -5}, {1000, 1000}, {-1000, -1000}, {255, 255}, {256, 256}, {-256, -256},
	{32766, 32766}, {32767, 32767}, {32768, 32767}, {32769, 32767}, {-32767, -32767}, {-32768, -32768}, {-32769, -32768}, {-32770, -32768},
	{65535, 32767}, {65536, 32767}, {65537, 32767}, {-65535, -32768}, {-65536, -32768}, {-65537, -32768},
	{1 << 20, 32767}, {-1 << 20, -32768}, {1 << 31, 32767}, {-1 << 31, -32768}, {1<<31 - 1, 32767}, {-1<<31 - 1, -32768},
	{1 << 32, 32767}, {-1 << 32, -32768}, {1<<32 + 5, 32767}, {-1<<32 + 5, -32768}, {1<<32 - 5, 32767}, {5 - 1<<32, -32768},
	{1 << 62, 32767}, {-1 << 62, -32768}, {math.MaxInt - 1, 32767}, {math.MaxInt, 32767}, {-math.MaxInt, -32768}, {math.MinInt + 5, -32768}, {math.MinInt, -32768},
}

// none tells in a stream of one coefficient that a frame didn't come.
const none = math.MinInt

// junk are numbers of a frame that didn't come, which say nothing.
var junk = []int{0, 1, -1, 999, mostCoef, -mostCoef, math.MaxInt, math.MinInt}

// edges are coefficients at all edges.
func edges() []int {
	var out []int
	for _, x := range scaled {
		out = append(out, x[0])
	}
	return out
}

// numbers answers a source of words that is the same in each run.
func numbers(seed uint64) func() uint64 {
	return func() uint64 {
		seed += 0x9e3779b97f4a7c15
		z := (seed ^ seed>>30) * 0xbf58476d1ce4e5b9
		z = (z ^ z>>27) * 0x94d049bb133111eb
		return z ^ z>>31
	}
}

// anyFrame answers a frame with numbers of all sizes.
func anyFrame(next func() uint64) api.Frame {
	var f api.Frame
	for i := range f {
		f[i] = int(next()) >> (next() % 64)
	}
	return f
}

// whole answers a frame all of whose coefficients are the same.
func whole(x int) api.Frame {
	var f api.Frame
	for i := range f {
		f[i] = x
	}
	return f
}

// alone answers a frame of 0s but for one.
func alone(at, x int) api.Frame {
	var f api.Frame
	f[at] = x
	return f
}

// anyStream answers a stream in which so many of 8 frames didn't come, more or less; the numbers of those are junk.
func anyStream(next func() uint64, count int, missing uint64) []Got {
	l := make([]Got, count)
	for i := range l {
		l[i] = Got{Ok: next()%8 >= missing, F: anyFrame(next)}
	}
	return l
}

// byHand answers a coefficient for the n-th frame that didn't come, in numbers that hold anything.
func byHand(x, n int) int {
	if n < 1 {
		return x
	}
	if n >= 4 {
		return 0
	}
	times := new(big.Int).Mul(big.NewInt(int64(x)), big.NewInt(int64(4-n)))
	return int(times.Quo(times, big.NewInt(4)).Int64())
}

// filledByHand answers one frame of a stream, by looking for the last one that came, ahead of it.
func filledByHand(l []Got, at int) api.Frame {
	from := at
	for from >= 0 && !l[from].Ok {
		from--
	}
	if from < 0 {
		return api.Frame{}
	}
	f := l[from].F
	for i, x := range f {
		f[i] = byHand(x, at-from)
	}
	return f
}

// held holds Fill and Lost of a stream against the chapter's words done by hand.
func held(t *testing.T, l []Got) {
	t.Helper()
	out := Fill(l)
	if len(out) != len(l) {
		t.Fatalf("Fill of %d frames has %d", len(l), len(out))
	}
	lost := 0
	for i, f := range out {
		if !l[i].Ok {
			lost++
		}
		if want := filledByHand(l, i); f != want {
			t.Fatalf("Fill: the frame %d of %d is %d, not %d", i, len(l), f, want)
		}
	}
	if n := Lost(l); n != lost {
		t.Fatalf("Lost = %d, not %d", n, lost)
	}
}

// stream answers a stream of frames that have one coefficient at a place; the numbers of those that didn't come are junk.
func stream(l []int, at, junk int) []Got {
	out := make([]Got, len(l))
	for i, x := range l {
		if x == none {
			out[i].F = whole(junk)
		} else {
			out[i] = Got{Ok: true, F: alone(at, x)}
		}
	}
	return out
}

// 21.1: coefficients that are told, at each place, alone and all of them.
func TestScaleGiven(t *testing.T) {
	for _, x := range scaled {
		for n := 1; n <= 3; n++ {
			if f := Scale(whole(x[0]), n); f != whole(x[n]) {
				t.Errorf("Scale of %ds, %d = %d, not %ds", x[0], n, f, x[n])
			}
			for at := range api.N {
				if f := Scale(alone(at, x[0]), n); f != alone(at, x[n]) {
					t.Errorf("Scale of %d at %d, %d = %d, not %d", x[0], at, n, f, x[n])
				}
			}
		}
	}
}

// 21.1: an n below 1 answers the frame, one of 4 or more a frame of 0s, however far it is.
func TestScaleFarNumbers(t *testing.T) {
	next := numbers(1)
	frames := []api.Frame{{}, alone(0, 1), alone(31, -1), whole(100), whole(-mostCoef), whole(math.MinInt), whole(math.MaxInt)}
	for range 20 {
		frames = append(frames, anyFrame(next))
	}
	for _, f := range frames {
		for _, n := range []int{0, -1, -2, -3, -4, -5, -100, -1 << 31, -1<<32 + 1, -1 << 62, math.MinInt + 5, math.MinInt + 4, math.MinInt + 3, math.MinInt + 1, math.MinInt} {
			if g := Scale(f, n); g != f {
				t.Errorf("Scale(%d, %d) = %d", f, n, g)
			}
		}
		for _, n := range []int{4, 5, 6, 7, 8, 9, 100, 1<<31 + 1, 1 << 32, 1<<32 + 1, 1<<32 + 3, 1 << 40, 1 << 62, 1<<62 + 1, math.MaxInt - 1, math.MaxInt} {
			if g := Scale(f, n); g != (api.Frame{}) {
				t.Errorf("Scale(%d, %d) = %d", f, n, g)
			}
		}
	}
}

// 21.1: small coefficients one by one, those about the edges, and frames of all sizes, by the chapter's words done by hand.
func TestScaleByHand(t *testing.T) {
	frames := []api.Frame{}
	for x := -2000; x <= 2000; x++ {
		frames = append(frames, whole(x))
	}
	for _, x := range edges() {
		for d := -8; d <= 8; d++ {
			frames = append(frames, whole(x+d))
		}
	}
	next := numbers(2)
	for range 5000 {
		frames = append(frames, anyFrame(next))
	}
	for _, f := range frames {
		for n := -1; n <= 5; n++ {
			want := f
			for i, x := range f {
				want[i] = byHand(x, n)
			}
			if g := Scale(f, n); g != want {
				t.Fatalf("Scale(%d, %d) = %d, not %d", f, n, g, want)
			}
		}
	}
}

// 21.1: what is scaled is rounded toward 0: of a number with the other sign it is that with the other sign.
func TestScaleTowardNought(t *testing.T) {
	next := numbers(3)
	for range 2000 {
		f := anyFrame(next)
		g := f
		for i, x := range f {
			if x == math.MinInt { // it has none with the other sign
				f[i] = 0
				g[i] = 0
			}
			g[i] = -g[i]
		}
		for n := 0; n <= 4; n++ {
			a, b := Scale(f, n), Scale(g, n)
			for i := range a {
				if a[i] != -b[i] {
					t.Fatalf("Scale of %d and %d, %d: %d and %d", f[i], g[i], n, a[i], b[i])
				}
			}
		}
	}
}

// 21.1: streams that are told, at each place, whatever frames that didn't come have for numbers.
func TestFillGiven(t *testing.T) {
	for _, c := range filled {
		for at := range api.N {
			for _, j := range junk {
				got := Fill(stream(c.l, at, j))
				if len(got) != len(c.want) {
					t.Fatalf("Fill(%d) has %d frames", c.l, len(got))
				}
				for i, f := range got {
					if f != alone(at, c.want[i]) {
						t.Errorf("Fill(%d): the frame %d = %d, not %d at %d", c.l, i, f, c.want[i], at)
					}
				}
			}
		}
	}
}

// 21.1: of no frames none are made, and none didn't come.
func TestFillOfNothing(t *testing.T) {
	for _, l := range [][]Got{nil, {}, make([]Got, 0, 5), make([]Got, 5)[:0]} {
		if out := Fill(l); len(out) != 0 {
			t.Errorf("Fill of nothing = %d", out)
		}
		if n := Lost(l); n != 0 {
			t.Errorf("Lost of nothing = %d", n)
		}
	}
}

// 21.1: of frames that all came, those; none didn't come.
func TestFillOfAll(t *testing.T) {
	next := numbers(4)
	for count := range 40 {
		l := anyStream(next, count, 0)
		for i, f := range Fill(l) {
			if f != l[i].F {
				t.Errorf("Fill: the frame %d of %d that came is %d, not %d", i, count, f, l[i].F)
			}
		}
		if n := Lost(l); n != 0 {
			t.Errorf("Lost of %d that came = %d", count, n)
		}
	}
}

// 21.1: of frames none of which came, 0s, whatever their numbers are; all of them didn't come.
func TestFillOfNone(t *testing.T) {
	next := numbers(5)
	for count := range 40 {
		l := anyStream(next, count, 8)
		out := Fill(l)
		if len(out) != count {
			t.Fatalf("Fill of %d has %d frames", count, len(out))
		}
		for i, f := range out {
			if f != (api.Frame{}) {
				t.Errorf("Fill: the frame %d of %d that didn't come is %d", i, count, f)
			}
		}
		if n := Lost(l); n != count {
			t.Errorf("Lost of %d that didn't come = %d", count, n)
		}
	}
}

// 21.1: all ways in which up to eleven frames came, or didn't.
func TestFillAllWays(t *testing.T) {
	next := numbers(6)
	for count := range 12 {
		for way := range 1 << count {
			l := anyStream(next, count, 0)
			for i := range l {
				l[i].Ok = way>>i&1 == 1
			}
			held(t, l)
		}
	}
}

// 21.1: streams of all lengths, longer ones than belfry sends among them, of which few, or nearly all frames didn't come.
func TestFillByHand(t *testing.T) {
	next := numbers(7)
	for missing := range uint64(9) {
		for count := range 60 {
			held(t, anyStream(next, count, missing))
		}
		held(t, anyStream(next, api.MaxFrames, missing))
		held(t, anyStream(next, api.MaxFrames+1, missing))
	}
}

// 21.1: a frame that came long ago isn't heard again, however many in a row didn't come after it.
func TestFillLongAgo(t *testing.T) {
	l := make([]Got, 70000)
	l[0] = Got{Ok: true, F: whole(mostCoef)}
	l[len(l)-2] = Got{Ok: true, F: whole(8)}
	out := Fill(l)
	if len(out) != len(l) {
		t.Fatalf("Fill of %d frames has %d", len(l), len(out))
	}
	for i, f := range out[4 : len(l)-2] {
		if f != (api.Frame{}) {
			t.Fatalf("Fill: the frame %d is %d", i+4, f)
		}
	}
	if out[len(l)-2] != whole(8) || out[len(l)-1] != whole(6) {
		t.Errorf("Fill: the last frames are %d", out[len(l)-2:])
	}
	if n := Lost(l); n != len(l)-2 {
		t.Errorf("Lost = %d", n)
	}
}

// 21.1: how many didn't come, wherever they are, whatever their numbers are.
func TestLost(t *testing.T) {
	for count := range 20 {
		for from := range count + 1 {
			for to := from; to <= count; to++ {
				for _, j := range junk {
					l := make([]Got, count)
					for i := range l {
						l[i] = Got{Ok: i < from || i >= to, F: whole(j)}
					}
					if n := Lost(l); n != to-from {
						t.Fatalf("Lost of %d, those from %d to %d of which didn't come, = %d", count, from, to, n)
					}
				}
			}
		}
	}
}

// 21.1: what frames that didn't come have for numbers says nothing.
func TestJunkSaysNothing(t *testing.T) {
	next := numbers(8)
	for range 300 {
		l := anyStream(next, 30, 4)
		other := slices.Clone(l)
		for i, g := range other {
			if !g.Ok {
				other[i].F = anyFrame(next)
			}
		}
		if !slices.Equal(Fill(l), Fill(other)) || Lost(l) != Lost(other) {
			t.Fatalf("Fill, or Lost, heeds the numbers of frames that didn't come")
		}
	}
}

// 21.3: a frame that came is as it came, whatever else didn't come, or came otherwise.
func TestCameAsItCame(t *testing.T) {
	next := numbers(9)
	for range 300 {
		at := int(next() % 20)
		f := anyFrame(next)
		for missing := range uint64(9) {
			l := anyStream(next, 20, missing)
			l[at] = Got{Ok: true, F: f}
			if g := Fill(l)[at]; g != f {
				t.Fatalf("Fill: the frame %d that came is %d, not %d", at, g, f)
			}
		}
	}
}

// 21.3: the fourth frame in a row that didn't come is silence, and so is each one after it, till one comes.
func TestSilenceAtTheEnd(t *testing.T) {
	next := numbers(10)
	for range 100 {
		for before := range 4 {
			for count := range 9 {
				l := anyStream(next, before, 2)
				l = append(l, Got{Ok: true, F: anyFrame(next)})
				l = append(l, anyStream(next, count, 8)...)
				l = append(l, anyStream(next, 1, 0)...)
				for i, f := range Fill(l)[before+1 : before+1+count] {
					if silent := f == (api.Frame{}); i >= 3 && !silent {
						t.Fatalf("the frame %d in a row that didn't come is %d", i+1, f)
					}
				}
			}
		}
	}
}

// 21.3: the third frame in a row that didn't come isn't silence yet.
func TestNoSilenceAhead(t *testing.T) {
	for _, x := range []int{4, -4, 5, 100, mostCoef, -mostCoef, math.MaxInt, math.MinInt} {
		for n := 1; n <= 3; n++ {
			for i, y := range Scale(whole(x), n) {
				if y == 0 {
					t.Fatalf("Scale of %ds, %d has 0 at %d", x, n, i)
				}
			}
		}
	}
}

// louder tells whether a coefficient is farther from 0 than another one, or on the other side of it.
func louder(a, b int) bool {
	if b < 0 {
		return a < b || a > 0
	}
	return a > b || a < 0
}

// 21.3: no frame that is made is louder than the last one that came, nor than the one ahead of it.
func TestNoneLouder(t *testing.T) {
	next := numbers(11)
	for missing := range uint64(9) {
		for range 60 {
			l := anyStream(next, 40, missing)
			out := Fill(l)
			var last, ahead api.Frame
			for i, f := range out {
				if l[i].Ok {
					last, ahead = f, f
				}
				for at, x := range f {
					if louder(x, last[at]) || louder(x, ahead[at]) {
						t.Fatalf("the frame %d has %d at %d, after %d, the last one that came %d", i, x, at, ahead[at], last[at])
					}
				}
				ahead = f
			}
		}
	}
}

// 21.1, 21.3: each frame is what Scale makes of the last one that came.
func TestFillIsScale(t *testing.T) {
	next := numbers(12)
	for range 200 {
		l := anyStream(next, 30, 5)
		var last api.Frame
		n := 0
		for i, f := range Fill(l) {
			n++
			if l[i].Ok {
				last, n = l[i].F, 0
			}
			if f != Scale(last, n) {
				t.Fatalf("the frame %d isn't the %d-th after the last one that came", i, n)
			}
		}
	}
}

// 21.2: samples that are told, alone, at each place among others, and all of them.
func TestCutGiven(t *testing.T) {
	var l, want []int
	for _, c := range cuts {
		l, want = append(l, c[0]), append(want, c[1])
		if got := Cut([]int{c[0]}); !slices.Equal(got, []int{c[1]}) {
			t.Errorf("Cut of %d = %d, not %d", c[0], got, c[1])
		}
		for at := range 9 {
			some, wantSome := make([]int, 9), make([]int, 9)
			some[at], wantSome[at] = c[0], c[1]
			if got := Cut(some); !slices.Equal(got, wantSome) {
				t.Errorf("Cut of %d = %d", some, got)
			}
		}
	}
	if got := Cut(l); !slices.Equal(got, want) {
		t.Errorf("Cut(%d) = %d, not %d", l, got, want)
	}
}

// 21.2: nothing is cut to nothing.
func TestCutOfNothing(t *testing.T) {
	for _, l := range [][]int{nil, {}, make([]int, 0, 5), make([]int, 5)[:0]} {
		if out := Cut(l); len(out) != 0 {
			t.Errorf("Cut of nothing = %d", out)
		}
	}
}

// anySamples answers so many samples, of all sizes.
func anySamples(next func() uint64, count int) []int {
	l := make([]int, count)
	for i := range l {
		l[i] = int(next()) >> (next() % 64)
	}
	return l
}

// 21.2: all samples are cut by the chapter's words done by hand, as many come out as came in, and one that was cut is cut to itself.
func TestCutByHand(t *testing.T) {
	next := numbers(13)
	lists := [][]int{{}, anySamples(next, api.N*api.MaxFrames)}
	for x := -40000; x < 40000; x += 100 {
		l := make([]int, 100)
		for i := range l {
			l[i] = x + i
		}
		lists = append(lists, l)
	}
	for count := range 200 {
		lists = append(lists, anySamples(next, count))
	}
	for _, l := range lists {
		out := Cut(l)
		if len(out) != len(l) {
			t.Fatalf("Cut of %d samples has %d", len(l), len(out))
		}
		for i, x := range l {
			want := x
			switch {
			case x > 32767:
				want = 32767
			case x < -32768:
				want = -32768
			}
			if out[i] != want {
				t.Fatalf("Cut of %d = %d, not %d", x, out[i], want)
			}
		}
		if again := Cut(out); !slices.Equal(again, out) {
			t.Fatalf("what is cut is cut again")
		}
	}
}

// Rule 4: what is handed to Fill and Lost isn't changed, spare room included, nor kept, nor shared with an answer.
func TestFillLeavesGiven(t *testing.T) {
	spare := anyStream(numbers(14), 60, 4)
	kept := slices.Clone(spare)
	out, other := Fill(spare[:40]), Fill(spare[:40])
	Lost(spare[:40])
	if !slices.Equal(spare, kept) {
		t.Errorf("Fill, or Lost, changed what it was given")
	}
	want := slices.Clone(out)
	clear(spare)
	clear(other[:cap(other)])
	if !slices.Equal(out, want) {
		t.Errorf("Fill kept or shared what was given or answered")
	}
	clear(out[:cap(out)])
	if again := Fill(kept[:40]); !slices.Equal(again, want) {
		t.Errorf("Fill answers what was answered, and spoilt")
	}
}

// Rule 4: what is handed to Cut isn't changed, spare room included, nor kept, nor shared with an answer, even where nothing is to be cut.
func TestCutLeavesGiven(t *testing.T) {
	for _, spare := range [][]int{anySamples(numbers(15), 60), {1, 2, 3, 4, 5, 6, 7, 8, 9, 10}} {
		kept := slices.Clone(spare)
		half := len(spare) / 2
		out, other := Cut(spare[:half]), Cut(spare[:half])
		if !slices.Equal(spare, kept) {
			t.Errorf("Cut changed what it was given")
		}
		want := slices.Clone(out)
		clear(spare)
		clear(other[:cap(other)])
		if !slices.Equal(out, want) {
			t.Errorf("Cut kept or shared what was given or answered")
		}
		clear(out[:cap(out)])
		if again := Cut(kept[:half]); !slices.Equal(again, want) {
			t.Errorf("Cut answers what was answered, and spoilt")
		}
	}
}

// Rule 6: a stream that begins with frames that didn't come has 0s there, whatever stream was filled ahead of it.
func TestStreamsApart(t *testing.T) {
	loud := []Got{{Ok: true, F: whole(mostCoef)}, {}}
	for range 3 {
		Fill(loud)
		for i, f := range Fill([]Got{{}, {F: whole(7)}, {}}) {
			if f != (api.Frame{}) {
				t.Errorf("the frame %d that didn't come is %d", i, f)
			}
		}
		if out := Fill(loud[1:]); len(out) != 1 || out[0] != (api.Frame{}) {
			t.Errorf("the rest of a stream = %d", out)
		}
	}
}

// Rule 6: what a call answers hangs on its arguments alone, whatever was asked ahead of it.
func TestTwice(t *testing.T) {
	next := numbers(16)
	for range 50 {
		l, f, s := anyStream(next, 30, 4), anyFrame(next), anySamples(next, 30)
		n := int(next()%6) - 1
		frames, lost, one, cut := Fill(l), Lost(l), Scale(f, n), Cut(s)
		other := anyStream(next, 40, 5)
		Fill(other)
		Lost(other)
		Scale(anyFrame(next), int(next()%6)-1)
		Cut(anySamples(next, 40))
		if !slices.Equal(Fill(l), frames) || Lost(l) != lost || Scale(f, n) != one || !slices.Equal(Cut(s), cut) {
			t.Fatalf("another answer for the same")
		}
	}
}
