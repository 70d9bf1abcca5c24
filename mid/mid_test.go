package mid

import (
	"math"
	"slices"
	"testing"

	"belfry/api"
)

const (
	farthest = 1099511627776 // 2^40, the greatest number that Of takes
	greatest = 1048576       // 2^20, the greatest number that is split
	joined   = 16777216      // 2^24, the greatest middle or side that is joined
)

// parted are left and right numbers, their middle and their side, worked out by another program.
var parted = [][4]int{
	{5, 2, 3, 3}, {2, 5, 3, -3}, {5, 3, 4, 2}, {3, 5, 4, -2},
	{-5, -2, -4, -3}, {-2, -5, -4, 3}, {-5, -3, -4, -2}, {-3, -5, -4, 2},
	{1, 0, 0, 1}, {0, 1, 0, -1}, {-1, 0, -1, -1}, {0, -1, -1, 1},
	{1, -1, 0, 2}, {-1, 1, 0, -2}, {2, -1, 0, 3}, {-1, 2, 0, -3},
	{1, -2, -1, 3}, {-2, 1, -1, -3}, {0, 0, 0, 0}, {7, 7, 7, 0},
	{-7, -7, -7, 0}, {9, -9, 0, 18}, {-9, 9, 0, -18}, {1000, -999, 0, 1999},
	{-1000, 999, -1, -1999}, {229, 19, 124, 210}, {102, -110, -4, 212}, {134, -245, -56, 379},
	{32703, 60958, 46830, -28255}, {6304, 55107, 30705, -48803}, {-5861, -65100, -35481, 59239}, {-7026111, 12754361, 2864125, -19780472},
	{7895717, -5887641, 1004038, 13783358}, {6018334, -2667467, 1675433, 8685801}, {-778161628, -676872354, -727516991, -101289274}, {-2109147133, 4239708203, 1065280535, -6348855336},
	{964632350168, -735614822363, 114508763902, 1700247172531}, {-253542833496, 50094763559, -101724034969, -303637597055}, {595669505914, 264886837307, 430278171610, 330782668607},
	{1099511627776, 1099511627776, 1099511627776, 0}, {-1099511627776, -1099511627776, -1099511627776, 0},
	{1099511627776, -1099511627776, 0, 2199023255552}, {-1099511627776, 1099511627776, 0, -2199023255552},
	{1099511627776, 1099511627775, 1099511627775, 1}, {1099511627775, 1099511627776, 1099511627775, -1},
	{-1099511627776, -1099511627775, -1099511627776, -1}, {-1099511627775, -1099511627776, -1099511627776, 1},
	{1099511627776, -1099511627775, 0, 2199023255551}, {-1099511627775, 1099511627776, 0, -2199023255551},
	{-1099511627776, 1099511627775, -1, -2199023255551}, {1099511627775, -1099511627776, -1, 2199023255551},
	{1099511627776, 0, 549755813888, 1099511627776}, {0, 1099511627776, 549755813888, -1099511627776},
	{-1099511627776, 0, -549755813888, -1099511627776}, {0, -1099511627776, -549755813888, 1099511627776},
	{1099511627776, 1, 549755813888, 1099511627775}, {1, 1099511627776, 549755813888, -1099511627775},
	{-1099511627776, 1, -549755813888, -1099511627777}, {1, -1099511627776, -549755813888, 1099511627777},
	{1099511627776, -1, 549755813887, 1099511627777}, {-1, 1099511627776, 549755813887, -1099511627777},
	{-1099511627776, -1, -549755813889, -1099511627775}, {-1, -1099511627776, -549755813889, 1099511627775},
}

// undone are middles and sides, and their left and right numbers, worked out by another program.
var undone = [][4]int{
	{0, 0, 0, 0}, {0, 1, 1, 0}, {0, -1, 0, 1}, {3, 3, 5, 2}, {3, -3, 2, 5}, {-1, -1, -1, 0}, {-1, 2, 0, -2},
	{1099511627776, 1099511627776, 1649267441664, 549755813888}, {1099511627776, -1099511627776, 549755813888, 1649267441664},
	{-1099511627776, 1099511627776, -549755813888, -1649267441664}, {-1099511627776, -1099511627776, -1649267441664, -549755813888},
	{1099511627776, 1099511627775, 1649267441664, 549755813889}, {1099511627776, -1099511627775, 549755813889, 1649267441664},
	{-1099511627776, 1099511627775, -549755813888, -1649267441663}, {-1099511627776, -1099511627775, -1649267441663, -549755813888},
	{0, 2199023255552, 1099511627776, -1099511627776}, {0, -2199023255552, -1099511627776, 1099511627776},
	{0, 2199023255551, 1099511627776, -1099511627775}, {-1, -2199023255551, -1099511627776, 1099511627775},
	{1099511627776, 0, 1099511627776, 1099511627776}, {-1099511627776, 0, -1099511627776, -1099511627776},
	{1099511627776, 1, 1099511627777, 1099511627776}, {1099511627776, -1, 1099511627776, 1099511627777},
	{-1099511627776, 1, -1099511627775, -1099511627776}, {-1099511627776, -1, -1099511627776, -1099511627775},
	{0, 1099511627776, 549755813888, -549755813888}, {0, -1099511627776, -549755813888, 549755813888},
}

// numbers answers a source of words that is the same in each run.
func numbers(seed uint64) func() uint64 {
	return func() uint64 {
		seed += 0x9e3779b97f4a7c15
		z := (seed ^ seed>>30) * 0xbf58476d1ce4e5b9
		z = (z ^ z>>27) * 0x94d049bb133111eb
		return z ^ z>>31
	}
}

// random answers so many numbers of all sizes, none of a size above the greatest one.
func random(next func() uint64, count, greatest int) []int {
	l := make([]int, count)
	for i := range l {
		l[i] = int(next()) >> (next() % 64) % (greatest + 1)
	}
	return l
}

// halfByHand answers a number's half, rounded down, without a shift.
func halfByHand(n int) int {
	if n < 0 {
		return -((1 - n) / 2)
	}
	return n / 2
}

// ofByHand answers middle and side by the chapter's rule.
func ofByHand(l, r int) (int, int) { return r + halfByHand(l-r), l - r }

// backByHand answers left and right by the chapter's rule.
func backByHand(m, s int) (int, int) { return m - halfByHand(s) + s, m - halfByHand(s) }

// couples are pairs of numbers that are no greater than the greatest one: small ones and edges, each with each, and some of all sizes.
func couples(greatest int) [][2]int {
	edges := []int{1000, -1001, 1 << 19, -1 << 19, greatest / 2, -greatest / 2, greatest - 1, 1 - greatest, greatest, -greatest}
	for x := -9; x <= 9; x++ {
		edges = append(edges, x)
	}
	var out [][2]int
	for _, a := range edges {
		for _, b := range edges {
			out = append(out, [2]int{a, b})
		}
	}
	for l := random(numbers(uint64(greatest)), 20000, greatest); len(l) > 0; l = l[2:] {
		out = append(out, [2]int{l[0], l[1]})
	}
	return out
}

// with answers a copy of a list that has another number at a place.
func with(l []int, i, x int) []int {
	l = slices.Clone(l)
	l[i] = x
	return l
}

// tooGreat are numbers of a size above a greatest one: those next to it, and far ones.
func tooGreat(most int) []int {
	return []int{most + 1, -most - 1, 2 * most, -2 * most, 1 << 31, 1 << 32, -1 << 32, farthest, -farthest, math.MaxInt, math.MinInt, math.MinInt + most}
}

// 12.1: the chapter's example, and what another program worked out: sides odd and even, above 0 and below, and numbers of 2^40.
func TestGivenNumbers(t *testing.T) {
	for _, x := range parted {
		if m, s := Of(x[0], x[1]); m != x[2] || s != x[3] {
			t.Errorf("Of(%d, %d) = %d, %d, not %d", x[0], x[1], m, s, x[2:])
		}
		if l, r := Back(x[2], x[3]); l != x[0] || r != x[1] {
			t.Errorf("Back(%d, %d) = %d, %d, not %d", x[2], x[3], l, r, x[:2])
		}
	}
	for _, x := range undone {
		if l, r := Back(x[0], x[1]); l != x[2] || r != x[3] {
			t.Errorf("Back(%d, %d) = %d, %d, not %d", x[0], x[1], l, r, x[2:])
		}
	}
}

// 12.1: Of of numbers of all sizes, by the chapter's rule, done by hand; the half of the sum, rounded down, is the middle, too.
func TestOfByHand(t *testing.T) {
	for _, x := range couples(farthest) {
		m, s := Of(x[0], x[1])
		if wm, ws := ofByHand(x[0], x[1]); m != wm || s != ws {
			t.Fatalf("Of(%d, %d) = %d, %d, not %d, %d", x[0], x[1], m, s, wm, ws)
		}
		if h := halfByHand(x[0] + x[1]); m != h {
			t.Fatalf("Of(%d, %d) = %d, %d, but the half of the sum is %d", x[0], x[1], m, s, h)
		}
	}
}

// 12.1: Back of numbers of all sizes, and of what Of answers of such, by the chapter's rule, done by hand.
func TestBackByHand(t *testing.T) {
	for _, x := range couples(farthest) {
		m, s := Of(x[0], x[1])
		for _, y := range [][2]int{x, {m, s}} {
			l, r := Back(y[0], y[1])
			if wl, wr := backByHand(y[0], y[1]); l != wl || r != wr {
				t.Fatalf("Back(%d, %d) = %d, %d, not %d, %d", y[0], y[1], l, r, wl, wr)
			}
		}
	}
}

// 12.1: sides one by one, odd and even, about 0: the middle goes down by one at each second side below 0, and up at each second above it.
func TestOfSideBySide(t *testing.T) {
	for _, r := range []int{0, 1, -1, 50, -50, 1 << 20, -1 << 20, 1<<40 - 60, 60 - 1<<40} {
		half := -30
		for side := -60; side <= 60; side++ {
			if side != -60 && side%2 == 0 {
				half++
			}
			if m, s := Of(r+side, r); m != r+half || s != side {
				t.Errorf("Of(%d, %d) = %d, %d, not %d, %d", r+side, r, m, s, r+half, side)
			}
		}
	}
}

// Rule 1: Of and Back end, and panic of nothing, at the ends of int.
func TestEndsOfInt(t *testing.T) {
	l := append(tooGreat(farthest), 0, 1, -1, math.MaxInt-1, math.MinInt+1, 1<<62, -1<<62)
	for _, a := range l {
		for _, b := range l {
			Of(a, b)
			Back(a, b)
		}
	}
}

// 12.2: nothing is split into nothing, and joined of nothing.
func TestNothing(t *testing.T) {
	for _, l := range [][]int{nil, {}, make([]int, 0, 5)} {
		if m, s, e := Split(l); len(m) != 0 || len(s) != 0 || e != api.OK {
			t.Errorf("Split of nothing = %d, %d, %d", m, s, e)
		}
		if l, e := Join(l, nil); len(l) != 0 || e != api.OK {
			t.Errorf("Join of nothing = %d, %d", l, e)
		}
		if l, e := Join(nil, l); len(l) != 0 || e != api.OK {
			t.Errorf("Join of nothing = %d, %d", l, e)
		}
	}
}

// 12.2: lists that are told.
func TestGivenLists(t *testing.T) {
	for _, c := range []struct{ l, m, s []int }{
		{[]int{5, 2}, []int{3}, []int{3}},
		{[]int{0, 0}, []int{0}, []int{0}},
		{[]int{5, 2, 2, 5}, []int{3, 3}, []int{3, -3}},
		{[]int{-1, 0, 7, 7, 9, -9}, []int{-1, 7, 0}, []int{-1, 0, 18}},
		{[]int{greatest, greatest, -greatest, -greatest}, []int{greatest, -greatest}, []int{0, 0}},
		{[]int{greatest, -greatest, -greatest, greatest}, []int{0, 0}, []int{2 * greatest, -2 * greatest}},
		{[]int{greatest, 1 - greatest, -greatest, greatest - 1}, []int{0, -1}, []int{2*greatest - 1, 1 - 2*greatest}},
		{[]int{1, 2, 3, 4, 5, 6, 7, 8, 9, 10}, []int{1, 3, 5, 7, 9}, []int{-1, -1, -1, -1, -1}},
		{[]int{2, 1, 4, 2, 6, 3, 8, 4, 10, 5}, []int{1, 3, 4, 6, 7}, []int{1, 2, 3, 4, 5}},
	} {
		if m, s, e := Split(c.l); e != api.OK || !slices.Equal(m, c.m) || !slices.Equal(s, c.s) {
			t.Errorf("Split(%d) = %d, %d, %d", c.l, m, s, e)
		}
		if l, e := Join(c.m, c.s); e != api.OK || !slices.Equal(l, c.l) {
			t.Errorf("Join(%d, %d) = %d, %d", c.m, c.s, l, e)
		}
	}
}

// splitByHand holds Split of a list against the chapter's rule, pair by pair.
func splitByHand(t *testing.T, l []int) {
	t.Helper()
	m, s, e := Split(l)
	if e != api.OK || 2*len(m) != len(l) || 2*len(s) != len(l) {
		t.Fatalf("Split(%d) = %d, %d, %d", l, m, s, e)
	}
	for i := range m {
		if wm, ws := ofByHand(l[2*i], l[2*i+1]); m[i] != wm || s[i] != ws {
			t.Fatalf("Split(%d): the pair %d: %d, %d, not %d, %d", l, i, m[i], s[i], wm, ws)
		}
	}
}

// joinByHand holds Join of middles and sides against the chapter's rule, pair by pair.
func joinByHand(t *testing.T, m, s []int) {
	t.Helper()
	l, e := Join(m, s)
	if e != api.OK || len(l) != 2*len(m) {
		t.Fatalf("Join(%d, %d) = %d, %d", m, s, l, e)
	}
	for i := range m {
		if wl, wr := backByHand(m[i], s[i]); l[2*i] != wl || l[2*i+1] != wr {
			t.Fatalf("Join(%d, %d): the pair %d: %d, not %d, %d", m, s, i, l[2*i:2*i+2], wl, wr)
		}
	}
}

// 12.2: Split and Join of lists of many lengths, by the chapter's rule, done by hand.
func TestListsByHand(t *testing.T) {
	next := numbers(1)
	for count := range 200 {
		splitByHand(t, random(next, 2*count, greatest))
		joinByHand(t, random(next, count, joined), random(next, count, joined))
	}
	splitByHand(t, random(next, 2*api.N*api.MaxFrames, greatest))
	joinByHand(t, random(next, api.N*api.MaxFrames, joined), random(next, api.N*api.MaxFrames, joined))
}

// 12.2: the greatest numbers are split and joined at each place, left and right, first, last and between, alone and all of them.
func TestGreatestNumbers(t *testing.T) {
	next := numbers(2)
	for _, count := range []int{1, 2, 9} {
		l, m, s := random(next, 2*count, 1000), random(next, count, 1000), random(next, count, 1000)
		for _, sign := range []int{1, -1} {
			for i := range l {
				splitByHand(t, with(l, i, sign*greatest))
			}
			for i := range m {
				joinByHand(t, with(m, i, sign*joined), s)
				joinByHand(t, m, with(s, i, sign*joined))
			}
			all := slices.Repeat([]int{sign * joined}, count)
			splitByHand(t, slices.Repeat([]int{sign * greatest}, 2*count))
			splitByHand(t, slices.Repeat([]int{sign * greatest, -sign * greatest}, count))
			joinByHand(t, all, all)
			joinByHand(t, all, slices.Repeat([]int{-sign * joined}, count))
		}
	}
}

// 12.2: of middles beyond 2^20 Join answers numbers that Split refuses.
func TestJoinedBeyondSplit(t *testing.T) {
	l, e := Join([]int{joined, -joined}, []int{joined, joined})
	if e != api.OK || !slices.Equal(l, []int{25165824, 8388608, -8388608, -25165824}) {
		t.Errorf("Join = %d, %d", l, e)
	}
	refused(t, l, api.ErrRange)
}

// refused holds that a list isn't split, for that reason, and that nothing is told beside it.
func refused(t *testing.T, l []int, want api.Errno) {
	t.Helper()
	if m, s, e := Split(l); e != want || len(m) != 0 || len(s) != 0 {
		t.Errorf("Split(%d) = %d, %d, %d, not %d", l, m, s, e, want)
	}
}

// apart holds that middles and sides aren't joined, for that reason, and that nothing is told beside it.
func apart(t *testing.T, m, s []int, want api.Errno) {
	t.Helper()
	if l, e := Join(m, s); e != want || len(l) != 0 {
		t.Errorf("Join(%d, %d) = %d, %d, not %d", m, s, l, e, want)
	}
}

// 12.2: numbers that aren't an even number of them aren't split, whatever else is wrong with them.
func TestSplitOfOdd(t *testing.T) {
	next := numbers(3)
	for count := 1; count < 100; count += 2 {
		refused(t, random(next, count, greatest), api.ErrArg)
	}
	for _, count := range []int{1, 3, 7} {
		l := random(next, count, greatest)
		for i := range l {
			for _, x := range tooGreat(greatest) {
				refused(t, with(l, i, x), api.ErrArg)
			}
		}
	}
}

// 12.2: numbers one of which is too great aren't split, wherever it is; nor are those all of which are.
func TestSplitOfTooGreat(t *testing.T) {
	next := numbers(4)
	for _, x := range tooGreat(greatest) {
		for _, count := range []int{2, 4, 14} {
			l := random(next, count, greatest)
			for i := range l {
				refused(t, with(l, i, x), api.ErrRange)
			}
			refused(t, slices.Repeat([]int{x}, count), api.ErrRange)
		}
	}
	for _, x := range [][]int{{greatest + 1, greatest + 1}, {-greatest - 1, greatest + 1}, {math.MinInt, math.MaxInt}} {
		refused(t, x, api.ErrRange)
	}
}

// 12.2: middles and sides that aren't as many aren't joined, whatever else is wrong with them.
func TestJoinOfUneven(t *testing.T) {
	next := numbers(5)
	for a := range 12 {
		for b := range 12 {
			if a == b {
				continue
			}
			m, s := random(next, a, joined), random(next, b, joined)
			apart(t, m, s, api.ErrArg)
			for _, x := range tooGreat(joined) {
				if a > 0 {
					apart(t, with(m, a-1, x), s, api.ErrArg)
					apart(t, with(m, 0, x), s, api.ErrArg)
				}
				if b > 0 {
					apart(t, m, with(s, b-1, x), api.ErrArg)
					apart(t, m, with(s, 0, x), api.ErrArg)
				}
			}
		}
	}
}

// 12.2: middles and sides one of which is too great aren't joined, wherever it is; nor are those all of which are.
func TestJoinOfTooGreat(t *testing.T) {
	next := numbers(6)
	for _, x := range tooGreat(joined) {
		for _, count := range []int{1, 2, 7} {
			m, s := random(next, count, joined), random(next, count, joined)
			for i := range count {
				apart(t, with(m, i, x), s, api.ErrRange)
				apart(t, m, with(s, i, x), api.ErrRange)
				apart(t, with(m, i, x), with(s, i, -x), api.ErrRange)
			}
			all := slices.Repeat([]int{x}, count)
			apart(t, all, s, api.ErrRange)
			apart(t, m, all, api.ErrRange)
			apart(t, all, all, api.ErrRange)
		}
	}
}

// 12.3: Back undoes Of, and Of Back.
func TestThereAndBack(t *testing.T) {
	for _, x := range couples(farthest) {
		m, s := Of(x[0], x[1])
		if l, r := Back(m, s); l != x[0] || r != x[1] {
			t.Fatalf("Of(%d, %d) = %d, %d, but back %d, %d", x[0], x[1], m, s, l, r)
		}
	}
	for _, x := range couples(farthest / 2) { // so that left and right are none beyond 2^40
		l, r := Back(x[0], x[1])
		if m, s := Of(l, r); m != x[0] || s != x[1] {
			t.Fatalf("Back(%d, %d) = %d, %d, but of those %d, %d", x[0], x[1], l, r, m, s)
		}
	}
}

// 12.3: Join undoes Split.
func TestJoinUndoesSplit(t *testing.T) {
	next := numbers(7)
	lists := [][]int{{greatest, -greatest, -greatest, greatest, greatest, greatest, -greatest, -greatest, 0, 0}}
	for count := range 300 {
		lists = append(lists, random(next, 2*count, greatest))
	}
	for _, x := range couples(greatest) {
		lists = append(lists, x[:])
	}
	for _, l := range lists {
		m, s, e := Split(l)
		if e != api.OK {
			t.Fatalf("Split(%d) = %d", l, e)
		}
		if back, e := Join(m, s); e != api.OK || !slices.Equal(back, l) {
			t.Fatalf("Split(%d) = %d, %d, but joined %d, %d", l, m, s, back, e)
		}
	}
}

// 12.3: the middle lies between both numbers; of two like ones it is that number, and the side 0.
func TestMiddleBetween(t *testing.T) {
	for _, x := range couples(farthest) {
		l, r := x[0], x[1]
		if m, s := Of(l, r); m < min(l, r) || m > max(l, r) || (s == 0) != (l == r) {
			t.Fatalf("Of(%d, %d) = %d, %d", l, r, m, s)
		}
		for _, y := range x {
			if m, s := Of(y, y); m != y || s != 0 {
				t.Fatalf("Of(%d, %d) = %d, %d", y, y, m, s)
			}
		}
	}
}

// 12.3: unlike pairs have unlike middles and sides, and those unlike left and right numbers.
func TestUnlikePairs(t *testing.T) {
	middles, rights := map[[2]int][2]int{}, map[[2]int][2]int{}
	for _, far := range []int{0, farthest - 40, 40 - farthest} {
		for a := -40; a <= 40; a++ {
			for b := -40; b <= 40; b++ {
				x := [2]int{far + a, far + b}
				m, s := Of(x[0], x[1])
				if y, met := middles[[2]int{m, s}]; met {
					t.Fatalf("Of(%d) and Of(%d) are both %d, %d", x, y, m, s)
				}
				middles[[2]int{m, s}] = x
				l, r := Back(x[0], x[1])
				if y, met := rights[[2]int{l, r}]; met {
					t.Fatalf("Back(%d) and Back(%d) are both %d, %d", x, y, l, r)
				}
				rights[[2]int{l, r}] = x
			}
		}
	}
}

// Rule 4: what is handed to Split isn't changed, spare room included, nor kept, nor shared with an answer.
func TestSplitLeavesGiven(t *testing.T) {
	spare := random(numbers(8), 60, greatest)
	kept := slices.Clone(spare)
	m, s, _ := Split(spare[:40])
	other, another, _ := Split(spare[:40])
	if !slices.Equal(spare, kept) {
		t.Errorf("Split changed %d into %d", kept, spare)
	}
	wantM, wantS := slices.Clone(m), slices.Clone(s)
	clear(spare)
	clear(other[:cap(other)])
	clear(another[:cap(another)])
	if !slices.Equal(m, wantM) || !slices.Equal(s, wantS) {
		t.Errorf("Split kept or shared what was given or answered")
	}
	clear(m[:cap(m)])
	if !slices.Equal(s, wantS) {
		t.Errorf("the middles share memory with the sides")
	}
}

// Rule 4: what is handed to Join isn't changed, spare room included, nor kept, nor shared with an answer.
func TestJoinLeavesGiven(t *testing.T) {
	m, s := random(numbers(9), 60, joined), random(numbers(10), 60, joined)
	keptM, keptS := slices.Clone(m), slices.Clone(s)
	l, _ := Join(m[:20], s[:20])
	other, _ := Join(m[:20], s[:20])
	if !slices.Equal(m, keptM) || !slices.Equal(s, keptS) {
		t.Errorf("Join changed %d and %d into %d and %d", keptM, keptS, m, s)
	}
	want := slices.Clone(l)
	clear(m)
	clear(s)
	clear(other[:cap(other)])
	if !slices.Equal(l, want) {
		t.Errorf("Join kept or shared what was given or answered")
	}
}

// Rule 4: refused lists aren't changed either.
func TestRefusedStays(t *testing.T) {
	odd, great := []int{5, 2, greatest + 1}, []int{5, 2, 2, joined + 1}
	Split(odd)
	Split(great)
	Join(odd, great)
	Join(great, great)
	if !slices.Equal(odd, []int{5, 2, greatest + 1}) || !slices.Equal(great, []int{5, 2, 2, joined + 1}) {
		t.Errorf("a refused call changed %d, or %d", odd, great)
	}
}

// 12.2: one list may be handed in as both, the middles and the sides.
func TestJoinOfOneList(t *testing.T) {
	l := random(numbers(11), 30, joined)
	joinByHand(t, l, l)
	joinByHand(t, l[:20], l[10:])
}

// Rule 6: what a call answers hangs on its arguments alone, whatever was asked ahead of it.
func TestTwice(t *testing.T) {
	next := numbers(12)
	for range 50 {
		l := random(next, 40, greatest)
		m, s, _ := Split(l)
		back, _ := Join(m, s)
		Split([]int{math.MaxInt, 0})
		Split([]int{1})
		Split(random(next, 60, greatest))
		Join([]int{1, 2}, []int{3})
		Join([]int{math.MinInt}, []int{3})
		x, y, e := Split(l)
		if again, f := Join(m, s); e != api.OK || f != api.OK || !slices.Equal(m, x) || !slices.Equal(s, y) || !slices.Equal(back, again) {
			t.Fatalf("another answer for %d", l)
		}
	}
}
