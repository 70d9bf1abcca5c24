package keyed

import (
	"fmt"
	"math"
	"slices"
	"testing"

	"belfry/api"
	"belfry/sip"
)

// The keys of the numbers below that another program worked out.
var (
	up   = sip.Key(0x0706050403020100, 0x0f0e0d0c0b0a0908)
	down = sip.Key(0x8899aabbccddeeff, 0x0011223344556677)
	keys = []api.Key{up, down, {}}
)

// farFrames are frames at the period's edges, below 0, and at the ends of the numbers, with their rests.
var farFrames = []struct{ frame, rest int }{
	{0, 0},
	{1, 1},
	{1014, 1014},
	{1015, 1015},
	{1016, 0},
	{1017, 1},
	{2031, 1015},
	{2032, 0},
	{1<<40 + 3, 35},
	{-1, 1015},
	{-2, 1014},
	{-1015, 1},
	{-1016, 0},
	{-1017, 1015},
	{-2032, 0},
	{-2033, 1015},
	{math.MaxInt, 127},
	{math.MinInt, 888},
}

// folder answers what folds numbers into one that hangs on each of them and on their order.
func folder() func(x int) uint64 {
	var h uint64
	return func(x int) uint64 {
		h = h*1000003 + uint64(x)
		return h
	}
}

// subset writes a subset as a test's table has it: 1 for what is in it.
func subset(l [api.Wide]bool) string {
	s := ""
	for _, in := range l {
		if in {
			s += "1"
		} else {
			s += "0"
		}
	}
	return s
}

// mustBeThings fails unless each thing from 0 to n - 1 is in l once.
func mustBeThings(t *testing.T, what string, l []int, n int) {
	t.Helper()
	sorted := slices.Sorted(slices.Values(l))
	if len(sorted) != n {
		t.Fatalf("%s: %d things, want %d", what, len(sorted), n)
	}
	for i, x := range sorted {
		if x != i {
			t.Fatalf("%s has not each thing once: %v", what, l)
		}
	}
}

// 2.1: numbers worked out by another program; counts below 0 go round.
func TestNum(t *testing.T) {
	for _, c := range []struct {
		sign         byte
		n            int
		byUp, byDown uint64
	}{
		{0, 0, 0x4876b84f02298863, 0x99ff0047e345fad2},
		{'c', 0, 0xed7a6ed6605ebf6f, 0xb32d3929edb74127},
		{'c', 1, 0xc1eed3ac2cf9553b, 0x767f6b73340c588d},
		{'p', 126, 0x4127274ec3e09cee, 0xe3e963f06b932bf5},
		{'s', 8127, 0x43c06c29f88ded6f, 0x71ff27e00fe10469},
		{255, 256, 0xc1ea824a679a8518, 0xfa6cf33acac53c2f},
		{255, 0x0102030405060708, 0xcf6375c7a4964beb, 0x11f56899b811c632},
		{128, -1, 0x50813c1bbb086857, 0x32576afad52114d0},
		{128, -2, 0x8fce5750c5b9f6dc, 0x9bd9134c106cb683},
		{1, math.MaxInt, 0x29c95700729528b5, 0xfafca4802979881d},
		{1, math.MinInt, 0x65bae330b60fdfc4, 0xd7198d7b8e6992f9},
	} {
		if x := Num(up, c.sign, c.n); x != c.byUp {
			t.Errorf("Num(up, %d, %d) = %#x, want %#x", c.sign, c.n, x, c.byUp)
		}
		if x := Num(down, c.sign, c.n); x != c.byDown {
			t.Errorf("Num(down, %d, %d) = %#x, want %#x", c.sign, c.n, x, c.byDown)
		}
	}
}

// 2.1: a keyed number is the sum of the sign and the count's eight bytes, the lowest first.
func TestNumIsASum(t *testing.T) {
	for _, c := range []struct {
		sign byte
		n    int
		text string
	}{
		{'a', 0, "a\x00\x00\x00\x00\x00\x00\x00\x00"},
		{'a', 1, "a\x01\x00\x00\x00\x00\x00\x00\x00"},
		{'a', 256, "a\x00\x01\x00\x00\x00\x00\x00\x00"},
		{0, 0x0807060504030201, "\x00\x01\x02\x03\x04\x05\x06\x07\x08"},
		{200, 7, "\xc8\x07\x00\x00\x00\x00\x00\x00\x00"},
		{255, -1, "\xff\xff\xff\xff\xff\xff\xff\xff\xff"},
		{255, -256, "\xff\x00\xff\xff\xff\xff\xff\xff\xff"},
		{255, math.MinInt, "\xff\x00\x00\x00\x00\x00\x00\x00\x80"},
	} {
		for _, k := range keys {
			if x, want := Num(k, c.sign, c.n), sip.Sum(k, c.text); x != want {
				t.Errorf("Num(%v, %d, %d) = %#x, want the sum of %q, %#x", k, c.sign, c.n, x, c.text, want)
			}
		}
	}
}

// 2.1: orders worked out by another program.
func TestOrder(t *testing.T) {
	for _, c := range []struct {
		sign byte
		n    int
		want []int
	}{
		{'q', 1, []int{0}},
		{'q', 2, []int{0, 1}},
		{'q', 3, []int{0, 2, 1}},
		{'q', 8, []int{7, 6, 5, 0, 3, 1, 2, 4}},
		{128, 8, []int{0, 2, 5, 3, 1, 7, 6, 4}},
		{254, 8, []int{1, 7, 4, 0, 3, 2, 6, 5}},
	} {
		if l := Order(up, c.sign, c.n); !slices.Equal(l, c.want) {
			t.Errorf("Order(up, %d, %d) = %v, want %v", c.sign, c.n, l, c.want)
		}
	}
	for _, c := range []struct {
		k    api.Key
		want uint64
	}{
		{up, 0xd34d7edb66ab704a},
		{down, 0xafb8b087cd5d01f8},
	} {
		fold, got := folder(), uint64(0)
		for _, n := range []int{1, 2, 3, 8, 127, 255, 256} {
			for _, x := range Order(c.k, 'q', n) {
				got = fold(x)
			}
		}
		if got != c.want {
			t.Errorf("the orders under %v fold to %#x, want %#x", c.k, got, c.want)
		}
	}
}

// 2.1: nothing of n below 1, or above 256.
func TestOrderOfNothing(t *testing.T) {
	for _, n := range []int{0, -1, -256, math.MinInt, 257, 258, 512, math.MaxInt} {
		for _, k := range keys {
			if l := Order(k, 'q', n); len(l) != 0 {
				t.Errorf("Order of %d things: %v, want nothing", n, l)
			}
		}
	}
}

// 2.1 and rule 4: orders are new memory at each call, spare room included.
func TestOrderIsNew(t *testing.T) {
	first, second := Order(up, 'p', 127), Order(up, 'p', 127)
	want := slices.Clone(second)
	for i := range first[:cap(first)] {
		first[:cap(first)][i] = -1
	}
	if !slices.Equal(second, want) || !slices.Equal(Order(up, 'p', 127), want) {
		t.Errorf("orders share memory: %v, want %v", second, want)
	}
}

// 2.1: a frame's rest is from 0 to 1015, of frames below 0, too.
func TestFrame(t *testing.T) {
	for _, c := range farFrames {
		if f := Frame(c.frame); f != c.rest {
			t.Errorf("Frame(%d) = %d, want %d", c.frame, f, c.rest)
		}
	}
	for f := -3 * api.Period; f < 3*api.Period; f++ {
		if got := Frame(f); got != (f+3*api.Period)%api.Period {
			t.Fatalf("Frame(%d) = %d", f, got)
		}
	}
}

// 2.2: bands, chips and places worked out by another program.
func TestFrames(t *testing.T) {
	type all struct {
		band  int
		chips [api.Wide]int
		place int
	}
	for _, c := range []struct {
		frame        int
		byUp, byDown all
	}{
		{0, all{0, [4]int{-1, -1, -1, -1}, 31}, all{1, [4]int{-1, -1, -1, 1}, 48}},
		{1, all{2, [4]int{-1, -1, 1, -1}, 55}, all{0, [4]int{-1, 1, -1, -1}, 0}},
		{7, all{4, [4]int{-1, 1, -1, 1}, 32}, all{2, [4]int{-1, -1, -1, 1}, 53}},
		{8, all{7, [4]int{1, -1, 1, 1}, 44}, all{2, [4]int{-1, -1, -1, 1}, 52}},
		{126, all{2, [4]int{1, -1, 1, -1}, 62}, all{5, [4]int{1, 1, -1, -1}, 46}},
		{127, all{1, [4]int{1, -1, 1, -1}, 31}, all{1, [4]int{1, 1, 1, 1}, 48}},
		{128, all{7, [4]int{-1, 1, -1, 1}, 55}, all{0, [4]int{1, -1, 1, -1}, 0}},
		{254, all{0, [4]int{-1, 1, 1, -1}, 31}, all{0, [4]int{1, -1, 1, 1}, 48}},
		{500, all{2, [4]int{-1, 1, -1, -1}, 26}, all{5, [4]int{1, 1, -1, -1}, 4}},
		{1008, all{1, [4]int{-1, 1, 1, -1}, 26}, all{1, [4]int{-1, -1, 1, -1}, 4}},
		{1015, all{5, [4]int{1, 1, -1, 1}, 62}, all{2, [4]int{-1, -1, 1, 1}, 46}},
		{-1, all{5, [4]int{1, 1, -1, 1}, 62}, all{2, [4]int{-1, -1, 1, 1}, 46}},
		{1016, all{0, [4]int{-1, -1, -1, -1}, 31}, all{1, [4]int{-1, -1, -1, 1}, 48}},
	} {
		if x := (all{Band(up, c.frame), Chips(up, c.frame), Place(up, c.frame)}); x != c.byUp {
			t.Errorf("the frame %d under up: %v, want %v", c.frame, x, c.byUp)
		}
		if x := (all{Band(down, c.frame), Chips(down, c.frame), Place(down, c.frame)}); x != c.byDown {
			t.Errorf("the frame %d under down: %v, want %v", c.frame, x, c.byDown)
		}
	}
}

// 2.2: all of a period, held against what another program folded.
func TestPeriod(t *testing.T) {
	for _, c := range []struct {
		k                            api.Key
		bands, chips, places, subset uint64
	}{
		{up, 0x1000c43080579ce6, 0x4bbf491ae649d1a6, 0xe21477eaf1270d90, 0x033b52e8c3677e41},
		{down, 0x63816408a50e84c4, 0x1912ec5c0d6b3dd4, 0x9a68fca9f43a75b0, 0x7600613b1ec5c01e},
	} {
		bandFold, chipFold, placeFold, subsetFold := folder(), folder(), folder(), folder()
		var bands, chips, places, subsets uint64
		for f := range api.Period {
			bands = bandFold(Band(c.k, f))
			places = placeFold(Place(c.k, f))
			for _, x := range Chips(c.k, f) {
				chips = chipFold(x + 1)
			}
			for i := range 64 {
				for _, in := range Subset(c.k, f, i/8, i%8) {
					x := 0
					if in {
						x = 1
					}
					subsets = subsetFold(x)
				}
			}
		}
		if bands != c.bands {
			t.Errorf("the bands under %v fold to %#x, want %#x", c.k, bands, c.bands)
		}
		if chips != c.chips {
			t.Errorf("the chips under %v fold to %#x, want %#x", c.k, chips, c.chips)
		}
		if places != c.places {
			t.Errorf("the places under %v fold to %#x, want %#x", c.k, places, c.places)
		}
		if subsets != c.subset {
			t.Errorf("the subsets under %v fold to %#x, want %#x", c.k, subsets, c.subset)
		}
	}
}

// 2.2: all of a frame hangs on its number's rest alone; the chapter's example is the frame -1, as the frame 1015.
func TestFramesComeAgain(t *testing.T) {
	for _, c := range farFrames {
		for _, k := range keys {
			if x, want := Band(k, c.frame), Band(k, c.rest); x != want {
				t.Fatalf("Band of %d = %d, of %d = %d", c.frame, x, c.rest, want)
			}
			if x, want := Chips(k, c.frame), Chips(k, c.rest); x != want {
				t.Fatalf("Chips of %d = %v, of %d = %v", c.frame, x, c.rest, want)
			}
			if x, want := Place(k, c.frame), Place(k, c.rest); x != want {
				t.Fatalf("Place of %d = %d, of %d = %d", c.frame, x, c.rest, want)
			}
			for i := range 64 {
				x, want := Subset(k, c.frame, i/8, i%8), Subset(k, c.rest, i/8, i%8)
				if x != want {
					t.Fatalf("Subset of %d, %d, %d = %v, of %d = %v", c.frame, i/8, i%8, x, c.rest, want)
				}
			}
		}
	}
}

// 2.2: subsets worked out by another program: some, all, and, where no bit is 1, just 0.
func TestSubset(t *testing.T) {
	for _, c := range []struct {
		k                api.Key
		frame, band, bit int
		want             string
	}{
		{up, 0, 0, 0, "0110"},
		{up, 0, 0, 1, "1111"},
		{up, 0, 0, 7, "0111"},
		{up, 0, 7, 7, "1001"},
		{up, 1, 0, 0, "0001"},
		{up, 500, 4, 5, "0001"},
		{up, 1015, 0, 3, "1010"},
		{up, 1015, 7, 7, "1111"},
		{up, -1, 0, 3, "1010"},
		{up, 1016, 0, 0, "0110"},
		{up, 1017, 0, 0, "0001"},
		{down, 0, 0, 0, "1110"},
		{down, 0, 7, 0, "0100"},
		{down, 0, 7, 7, "0110"},
		{down, 1, 0, 0, "0101"},
		{down, 500, 4, 5, "1100"},
		{down, 1015, 0, 3, "0011"},
		// No bit is 1 of these.
		{up, 0, 2, 3, "1000"},
		{up, 0, 7, 0, "1000"},
		{up, 4, 0, 7, "1000"},
		{up, 1020, 0, 7, "1000"},
		{down, 0, 1, 1, "1000"},
		{down, 18, 7, 7, "1000"},
	} {
		if x := subset(Subset(c.k, c.frame, c.band, c.bit)); x != c.want {
			t.Errorf("Subset(%v, %d, %d, %d) = %s, want %s", c.k, c.frame, c.band, c.bit, x, c.want)
		}
	}
}

// 2.2: subsets are what the keyed number's bits say; none is empty.
func TestSubsetByBits(t *testing.T) {
	empty := 0
	for _, k := range keys {
		for f := range 100 {
			for band := range 8 {
				x := Num(k, 's', f*8+band)
				for bit := range 8 {
					four := x >> (4 * bit) & 15
					if four == 0 {
						empty++
						four = 1
					}
					want := [4]bool{four&1 != 0, four&2 != 0, four&4 != 0, four&8 != 0}
					if got := Subset(k, f, band, bit); got != want {
						t.Fatalf("Subset(%v, %d, %d, %d) = %v, want %v", k, f, band, bit, got, want)
					}
				}
			}
		}
	}
	if empty == 0 {
		t.Errorf("no subset without a bit was met")
	}
}

// 2.2: all false of a band that isn't 0 to 7, or such a bit; 0 and 7 are none of those.
func TestSubsetOfNoBand(t *testing.T) {
	wrong := []int{-1, -8, math.MinInt, 8, 9, 16, 64, math.MaxInt}
	right := []int{0, 3, 7}
	for _, k := range keys {
		for _, frame := range []int{0, 4, 1015, -1, math.MinInt} {
			for _, x := range wrong {
				for _, y := range right {
					mustBeNothing(t, k, frame, x, y)
					mustBeNothing(t, k, frame, y, x)
				}
				mustBeNothing(t, k, frame, x, x)
			}
			for _, x := range right {
				for _, y := range right {
					if Subset(k, frame, x, y) == [4]bool{} {
						t.Errorf("Subset(%v, %d, %d, %d) is empty", k, frame, x, y)
					}
				}
			}
		}
	}
}

// mustBeNothing fails unless the subset is all false.
func mustBeNothing(t *testing.T, k api.Key, frame, band, bit int) {
	t.Helper()
	if l := Subset(k, frame, band, bit); l != [4]bool{} {
		t.Errorf("Subset(%v, %d, %d, %d) = %v, want all false", k, frame, band, bit, l)
	}
}

// 2.3: a keyed order has each thing once, of 1, of 256, and of all between.
func TestOrderHasEachOnce(t *testing.T) {
	for _, k := range keys {
		for n := 1; n <= 256; n++ {
			mustBeThings(t, fmt.Sprintf("the order of %d things", n), Order(k, byte(n), n), n)
		}
		for sign := range 256 {
			mustBeThings(t, fmt.Sprintf("the order of the sign %d", sign), Order(k, byte(sign), 8), 8)
		}
	}
}

// 2.3: in eight frames from a multiple of 8 on each band is met once, below 0 and beyond a period, too.
func TestEachBandOnce(t *testing.T) {
	for _, k := range keys {
		for first := -2 * api.Period; first < 2*api.Period; first += 8 {
			var l []int
			for i := range 8 {
				l = append(l, Band(k, first+i))
			}
			mustBeThings(t, fmt.Sprintf("the bands from the frame %d on", first), l, 8)
		}
	}
}

// 2.3: in 127 frames each place is met once, wherever they begin, a period's end among them.
func TestEachPlaceOnce(t *testing.T) {
	for _, k := range keys {
		for _, first := range []int{0, 1, 63, 127, 889, 890, 1000, 1015, 1016, 5000, -1, -64, -127, -1016, -1100, math.MinInt, math.MaxInt - 126} {
			var l []int
			for i := range api.Code {
				l = append(l, Place(k, first+i))
			}
			mustBeThings(t, fmt.Sprintf("the places from the frame %d on", first), l, api.Code)
		}
	}
}
