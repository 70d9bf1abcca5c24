package amend

import (
	"math"
	"slices"
	"testing"

	"belfry/api"
	"belfry/bch"
)

// numbers answers a source of words that is the same in each run.
func numbers(seed uint64) func() uint64 {
	return func() uint64 {
		seed += 0x9e3779b97f4a7c15
		z := (seed ^ seed>>30) * 0xbf58476d1ce4e5b9
		z = (z ^ z>>27) * 0x94d049bb133111eb
		return z ^ z>>31
	}
}

// power answers a power of 2 by hand, without the field's package.
func power(n int) int {
	x := 1
	for range n % 127 {
		x <<= 1
		if x > 127 {
			x ^= 137
		}
	}
	return x
}

// syndromes answers by hand the syndromes of the word with bits at these places alone: sums of powers of 2.
func syndromes(places ...int) []int {
	l := make([]int, 20)
	for n := range l {
		for _, i := range places {
			l[n] ^= power((n + 1) * i)
		}
	}
	return l
}

// ones answers the word with bits at these places alone.
func ones(places ...int) bch.Word {
	var w bch.Word
	for _, i := range places {
		w[i] = true
	}
	return w
}

// placesOf answers a word's places with bits, rising.
func placesOf(w bch.Word) []int {
	var l []int
	for i, bit := range w {
		if bit {
			l = append(l, i)
		}
	}
	return l
}

// sum answers the sum of two words, bit by bit.
func sum(a, b bch.Word) bch.Word {
	for i := range a {
		a[i] = a[i] != b[i]
	}
	return a
}

// random answers a word out of a source.
func random(next func() uint64) bch.Word {
	var w bch.Word
	for i := range w {
		w[i] = next()>>40&1 == 1
	}
	return w
}

// pick answers n places, none of them twice, in no order.
func pick(next func() uint64, n int) []int {
	var l []int
	for len(l) < n {
		if i := int(next() % 127); !slices.Contains(l, i) {
			l = append(l, i)
		}
	}
	return l
}

// row answers n places in a row, from one on, round the end.
func row(from, n int) []int {
	var l []int
	for i := range n {
		l = append(l, (from+i)%127)
	}
	return l
}

// lightest answers a codeword of 21 bits, the fewest that one has beside none.
func lightest(t *testing.T) bch.Word {
	var one [64]bch.Word
	for i := range one {
		one[i] = bch.Encode(1 << i)
		for j := range i {
			for k := range j {
				if w := sum(sum(one[i], one[j]), one[k]); len(placesOf(w)) == 21 {
					return w
				}
			}
		}
	}
	t.Fatal("no codeword of 21 bits was met")
	return bch.Word{}
}

// near tells by hand whether a word, known not to be at holes, has the codeword c near.
func near(w, holes, c bch.Word) bool {
	n := 0
	for i := range w {
		if holes[i] {
			n++
		} else if w[i] != c[i] {
			n += 2
		}
	}
	return n <= 20
}

// amended fails the test, if Amend doesn't tell x of a word.
func amended(t *testing.T, w, holes bch.Word, x uint64) {
	t.Helper()
	if got, e := Amend(w, holes); got != x || e != api.OK {
		t.Fatalf("Amend with holes at %v = %#x, %d; want %#x, %d", placesOf(holes), got, e, x, api.OK)
	}
}

// refused fails the test, if Amend doesn't tell of a word that there are too many errors.
func refused(t *testing.T, w, holes bch.Word) {
	t.Helper()
	if got, e := Amend(w, holes); got != 0 || e != api.ErrMany {
		t.Fatalf("Amend with holes at %v = %#x, %d; want 0, %d", placesOf(holes), got, e, api.ErrMany)
	}
}

// damaged answers x's codeword with errors at the first places, and holes, filled out of a source, at the others.
func damaged(next func() uint64, x uint64, errors int, places []int) (w, holes bch.Word) {
	w = sum(bch.Encode(x), ones(places[:errors]...))
	for _, i := range places[errors:] {
		holes[i] = true
		w[i] = next()>>17&1 == 1
	}
	return w, holes
}

// 6.1, 6.3: the chapter's examples.
func TestAmendExamples(t *testing.T) {
	next := numbers(1)
	c := bch.Encode(9)
	for range 60 {
		amended(t, sum(c, ones(pick(next, 10)...)), bch.Word{}, 9)
		w, holes := damaged(next, 9, 0, pick(next, 20))
		amended(t, w, holes, 9)
	}
	for i := range 127 {
		amended(t, sum(c, ones(row(i, 10)...)), bch.Word{}, 9)
		w, holes := damaged(next, 9, 0, row(i, 20))
		amended(t, w, holes, 9)
	}
}

// 6.1: codewords with neither errors nor holes.
func TestAmendOfCodewords(t *testing.T) {
	next := numbers(2)
	for _, x := range []uint64{0, 1, 9, 1 << 63, math.MaxUint64, 0x0123456789abcdef} {
		amended(t, bch.Encode(x), bch.Word{}, x)
	}
	for range 40 {
		x := next()
		amended(t, bch.Encode(x), bch.Word{}, x)
	}
}

// 6.1, 6.3: one error, at each place, the first and the last among them.
func TestAmendOfOneError(t *testing.T) {
	x := uint64(0xfeedfacecafe0123)
	for i := range 127 {
		amended(t, sum(bch.Encode(x), ones(i)), bch.Word{}, x)
		amended(t, sum(bch.Encode(x), ones(i)), ones(i), x)
		amended(t, bch.Encode(x), ones(i), x)
	}
}

// 6.1, 6.3: any errors and holes, where twice the errors and the holes are 20 at most: each such pair of counts.
func TestAmendOfErrorsAndHoles(t *testing.T) {
	next := numbers(3)
	for e := 0; e <= 10; e++ {
		for h := 0; 2*e+h <= 20; h++ {
			for range 8 {
				x := next()
				w, holes := damaged(next, x, e, pick(next, e+h))
				amended(t, w, holes, x)
			}
		}
	}
}

// 6.1, 6.3: 19 and 20 are amended, 21 and 22 aren't: such a word has no other codeword near either.
func TestAmendAtTheEdge(t *testing.T) {
	next := numbers(4)
	for n := 19; n <= 22; n++ {
		for e := 0; 2*e <= n; e++ {
			for range 12 {
				x := next()
				w, holes := damaged(next, x, e, pick(next, n-e))
				if n <= 20 {
					amended(t, w, holes, x)
				} else {
					refused(t, w, holes)
				}
			}
		}
	}
}

// 6.1: the edge with errors and holes at the first and at the last bits.
func TestAmendAtTheEnds(t *testing.T) {
	next := numbers(5)
	x := uint64(0x8000000000000001)
	places := []int{0, 126, 1, 125, 2, 124, 3, 123, 4, 122, 63, 62, 5, 121, 6, 120, 7, 119, 8, 118}
	for e := 0; e <= 10; e++ {
		w, holes := damaged(next, x, e, places[:20-e])
		amended(t, w, holes, x)
		slices.Reverse(places)
		w, holes = damaged(next, x, e, places[:20-e])
		amended(t, w, holes, x)
		w, holes = damaged(next, x, e, append([]int{11, 12}, places[:20-e]...)[:21-e])
		refused(t, w, holes)
	}
}

// 6.1: what a word has at holes says nothing: errors at holes are none, whichever holes have them, beside errors elsewhere.
func TestAmendOfWhatHolesHave(t *testing.T) {
	next := numbers(6)
	for _, e := range []int{0, 1, 5, 8} {
		x := next()
		places := pick(next, 20-e)
		w, holes := damaged(next, x, e, places)
		for wrong := 0; wrong <= 20-2*e; wrong++ { // so many of the holes have another bit than the codeword
			v := sum(bch.Encode(x), ones(places[:e+wrong]...))
			amended(t, v, holes, x)
		}
		for range 10 {
			for _, i := range places[e:] {
				w[i] = next()>>9&1 == 1
			}
			amended(t, w, holes, x)
		}
	}
	w, holes := damaged(next, 77, 1, pick(next, 20)) // 21: not for lucky holes either
	refused(t, w, holes)
	for i, hole := range holes {
		w[i] = w[i] && !hole || hole && bch.Encode(77)[i]
	}
	refused(t, w, holes)
}

// 6.1, 6.3: what could be located when holes are filled isn't amended, unless it is near: holes with few errors beside too many elsewhere.
func TestAmendAsksForNear(t *testing.T) {
	next := numbers(7)
	for h := 1; h <= 20; h++ {
		e := (20-h)/2 + 1
		for range 10 {
			x := next()
			places := pick(next, e+h)
			_, holes := damaged(next, x, e, places)
			refused(t, sum(bch.Encode(x), ones(places[:e]...)), holes)
		}
	}
	// All holes have the same bit in the codeword, so that one filling leaves e errors alone.
	for h := 1; h <= 20; h++ {
		e := (20-h)/2 + 1
		for _, x := range []uint64{0, math.MaxUint64} {
			w, holes := damaged(next, x, e, pick(next, e+h))
			refused(t, w, holes)
		}
	}
}

// 6.1: more than twenty holes are too many, though nothing else is wrong; so are all.
func TestAmendOfManyHoles(t *testing.T) {
	next := numbers(8)
	for h := 21; h <= 127; h++ {
		refused(t, bch.Encode(9), ones(pick(next, h)...))
		refused(t, bch.Word{}, ones(row(h, h)...))
	}
}

// 6.1: words that are near no codeword.
func TestAmendOfNoCodeword(t *testing.T) {
	next := numbers(9)
	for range 300 {
		refused(t, random(next), bch.Word{})
		refused(t, random(next), ones(pick(next, int(next()%21))...))
	}
	x := next()
	for e := 12; e <= 40; e++ {
		refused(t, sum(bch.Encode(x), ones(pick(next, e)...)), bch.Word{})
	}
}

// 6.1, 6.3: between two codewords of the least distance, it is the near one that is told, and none where the holes leave neither near.
func TestAmendBetweenCodewords(t *testing.T) {
	next := numbers(10)
	light := lightest(t)
	places := placesOf(light)
	c, d := bch.Encode(12345), sum(bch.Encode(12345), light)
	for n := 0; n <= 21; n++ {
		w := sum(c, ones(places[:n]...))
		if n <= 10 {
			amended(t, w, bch.Word{}, 12345)
		} else {
			amended(t, w, bch.Word{}, bch.Info(d))
		}
	}
	for h := 1; h <= 20; h++ {
		holes := ones(places[:h]...)
		for n := h; n <= 21; n++ {
			w := sum(c, ones(places[h:n]...))
			for i := range h {
				w[places[i]] = next()>>5&1 == 1
			}
			switch {
			case 2*(n-h)+h <= 20:
				amended(t, w, holes, 12345)
			case 2*(21-n)+h <= 20:
				amended(t, w, holes, bch.Info(d))
			default:
				refused(t, w, holes)
			}
		}
	}
}

// 6.3: what is amended was near, whatever the word; where a codeword is near, it is amended.
func TestAmendedWasNear(t *testing.T) {
	next := numbers(11)
	told := 0
	for range 400 {
		e := int(next() % 12)
		w, holes := damaged(next, next(), e, pick(next, e+int(next()%22)))
		x, err := Amend(w, holes)
		if err != api.OK {
			continue
		}
		told++
		c := bch.Encode(x)
		if !near(w, holes, c) || !Near(w, holes, c) {
			t.Fatalf("Amend told %#x, that isn't near", x)
		}
	}
	if told < 50 {
		t.Errorf("only %d words were amended", told)
	}
}

// Rule 6: the same word is told the same again.
func TestAmendAgain(t *testing.T) {
	next := numbers(12)
	for range 20 {
		x := next()
		w, holes := damaged(next, x, 4, pick(next, 16))
		amended(t, w, holes, x)
		refused(t, random(next), bch.Word{})
		Locate(syndromes(1, 2, 3))
		amended(t, w, holes, x)
	}
}

// 6.1: a codeword is near itself; with up to twenty holes, whatever stands there; with more it isn't.
func TestNearOfItself(t *testing.T) {
	next := numbers(13)
	for range 20 {
		c := bch.Encode(next())
		if !Near(c, bch.Word{}, c) {
			t.Fatal("a codeword isn't near itself")
		}
		for h := range 30 {
			places := pick(next, h)
			for _, w := range []bch.Word{c, sum(c, ones(places...)), sum(c, ones(places[:h/2]...))} {
				if got := Near(w, ones(places...), c); got != (h <= 20) {
					t.Fatalf("Near with %d holes = %t", h, got)
				}
			}
		}
	}
}

// 6.1: a codeword is near up to 20, and not from 21 on: each pair of counts about the edge.
func TestNearAtTheEdge(t *testing.T) {
	next := numbers(14)
	for e := 0; e <= 12; e++ {
		for h := 0; h <= 24; h++ {
			x := next()
			w, holes := damaged(next, x, e, pick(next, e+h))
			if got := Near(w, holes, bch.Encode(x)); got != (2*e+h <= 20) {
				t.Fatalf("Near with %d unlike and %d holes = %t", e, h, got)
			}
		}
	}
	for i := range 127 {
		c := bch.Encode(5)
		others := ones(row(i+1, 10)...)
		if !Near(sum(c, ones(i)), bch.Word{}, c) || Near(sum(sum(c, ones(i)), others), bch.Word{}, c) {
			t.Fatalf("Near is wrong with the bit %d changed", i)
		}
	}
}

// 6.1: of two words alike, or of a far codeword, it is told by hand, too.
func TestNearOfMany(t *testing.T) {
	next := numbers(15)
	for range 200 {
		w, holes, c := random(next), ones(pick(next, int(next()%22))...), bch.Encode(next())
		if got := Near(w, holes, c); got != near(w, holes, c) {
			t.Fatalf("Near = %t", got)
		}
	}
}

// 6.1: what is no codeword isn't near, not even a word that is like it: a codeword with one bit changed, at each place, or with more.
func TestNearOfNoCodeword(t *testing.T) {
	next := numbers(16)
	c := bch.Encode(9)
	for i := range 127 {
		w := sum(c, ones(i))
		if Near(w, bch.Word{}, w) || Near(c, bch.Word{}, w) || Near(c, ones(i), w) || Near(w, ones(i), w) {
			t.Fatalf("a codeword with the bit %d changed is near", i)
		}
	}
	for n := 1; n <= 20; n++ {
		w := sum(c, ones(pick(next, n)...))
		if Near(w, bch.Word{}, w) || Near(c, bch.Word{}, w) {
			t.Fatalf("a codeword with %d bits changed is near", n)
		}
	}
	w := random(next)
	if Near(w, bch.Word{}, w) {
		t.Fatal("a word that is no codeword is near itself")
	}
}

// 6.1: no hole, one at each place, some, all.
func TestCount(t *testing.T) {
	next := numbers(17)
	if n := Count(bch.Word{}); n != 0 {
		t.Errorf("Count of no hole = %d", n)
	}
	for i := range 127 {
		if n := Count(ones(i)); n != 1 {
			t.Errorf("Count of a hole at %d = %d", i, n)
		}
	}
	for h := range 128 {
		if n := Count(ones(pick(next, h)...)); n != h {
			t.Errorf("Count of %d holes = %d", h, n)
		}
	}
}

// located fails the test, if Locate doesn't answer these places of their word's syndromes.
func located(t *testing.T, places []int) {
	t.Helper()
	want := slices.Sorted(slices.Values(places))
	if l, ok := Locate(syndromes(places...)); !ok || !slices.Equal(l, want) {
		t.Fatalf("Locate = %v, %t; want %v, true", l, ok, want)
	}
}

// lost fails the test, if Locate answers anything.
func lost(t *testing.T, s []int) {
	t.Helper()
	if l, ok := Locate(s); ok || len(l) != 0 {
		t.Fatalf("Locate of %v = %v, %t; want nothing, false", s, l, ok)
	}
}

// 6.2: of 20 zeros no place, and true.
func TestLocateOfZeros(t *testing.T) {
	if l, ok := Locate(make([]int, 20)); !ok || len(l) != 0 {
		t.Errorf("Locate of 20 zeros = %v, %t", l, ok)
	}
}

// 6.2: one bit and two, at each place, 0 and 126 among them.
func TestLocateOfFew(t *testing.T) {
	for i := range 127 {
		located(t, []int{i})
		for j := i % 5; j < i; j += 5 {
			located(t, []int{i, j})
		}
	}
	located(t, []int{0, 126})
	located(t, []int{126, 0, 63})
}

// 6.2: up to ten bits, picked, and in rows, the places rising.
func TestLocateOfMany(t *testing.T) {
	next := numbers(18)
	for n := 1; n <= 10; n++ {
		for range 40 {
			located(t, pick(next, n))
		}
		for i := range 127 {
			located(t, row(i, n))
		}
	}
	located(t, []int{0, 14, 28, 42, 56, 70, 84, 98, 112, 126})
	located(t, []int{126, 125, 124, 123, 122, 4, 3, 2, 1, 0})
}

// 6.2: of the syndromes of eleven bits and more nothing: no word of up to ten has them.
func TestLocateOfTooMany(t *testing.T) {
	next := numbers(19)
	for range 1500 {
		lost(t, syndromes(pick(next, 11)...))
	}
	for i := range 127 {
		lost(t, syndromes(row(i, 11)...))
	}
	lost(t, syndromes(7, 14, 26, 33, 34, 42, 56, 75, 82, 88, 102)) // whose polynomial can be found, by luck
	for n := 12; n <= 60; n++ {
		lost(t, syndromes(pick(next, n)...))
	}
}

// 6.2: of eleven bits and more that a codeword of 21 has, those others of it that are ten at most: their syndromes are the same.
func TestLocateOfTheOthers(t *testing.T) {
	next := numbers(20)
	places := placesOf(lightest(t))
	for n := 11; n <= 21; n++ {
		for range 10 {
			for i := range places {
				j := i + int(next()%uint64(len(places)-i))
				places[i], places[j] = places[j], places[i]
			}
			want := slices.Sorted(slices.Values(places[n:]))
			if l, ok := Locate(syndromes(places[:n]...)); !ok || !slices.Equal(l, want) {
				t.Fatalf("Locate = %v, %t; want %v, true", l, ok, want)
			}
		}
	}
}

// 6.2: where the numbers aren't 20, nothing: of a nil list, of 19 and of 21, though the first 20 are good.
func TestLocateOfAnotherCount(t *testing.T) {
	lost(t, nil)
	lost(t, []int{})
	good := append(syndromes(9, 100), power(21*9)^power(21*100), power(22*9)^power(22*100))
	for _, n := range []int{1, 10, 18, 19, 21, 22} {
		lost(t, good[:n])
		lost(t, make([]int, n))
	}
	if _, ok := Locate(good[:20]); !ok {
		t.Error("Locate of 20 = false")
	}
	lost(t, make([]int, 1000))
}

// 6.2: a number below 0 or above 127, whichever of them, makes nothing of syndromes that are good by their rest.
func TestLocateOfOtherNumbers(t *testing.T) {
	for i := range 20 {
		for _, by := range []int{128, -128, 256, 1 << 40, math.MinInt} {
			for _, s := range [][]int{syndromes(3, 77), syndromes(), syndromes(0)} {
				s[i] += by
				lost(t, s)
			}
		}
		for _, x := range []int{-1, 128, math.MaxInt, math.MinInt} {
			s := syndromes(5)
			s[i] = x
			lost(t, s)
		}
	}
	s := syndromes(9) // 127 itself is an element
	for i := range 127 {
		if s = syndromes(i); slices.Contains(s, 127) {
			break
		}
	}
	if _, ok := Locate(s); !ok || !slices.Contains(s, 127) {
		t.Error("Locate of syndromes with 127 = false")
	}
}

// 6.2: numbers that are no word's syndromes: one or another changed, and any others.
func TestLocateOfNoWord(t *testing.T) {
	next := numbers(21)
	for i := 1; i < 20; i += 2 { // the even powers' own hang on those of half of them
		for _, places := range [][]int{{}, {0}, {5, 6, 7}, row(60, 10)} {
			for x := 1; x < 128; x += 9 {
				s := syndromes(places...)
				s[i] ^= x
				lost(t, s)
			}
		}
	}
	for range 300 {
		s := make([]int, 20)
		for i := range s {
			s[i] = int(next() % 128)
		}
		lost(t, s)
	}
	for i := range 20 {
		s := make([]int, 20)
		s[i] = 1
		lost(t, s)
	}
	lost(t, slices.Repeat([]int{2}, 20))
	s := slices.Repeat([]int{1}, 20)
	if l, ok := Locate(s); !ok || !slices.Equal(l, []int{0}) {
		t.Errorf("Locate of 20 times 1 = %v, %t", l, ok)
	}
}

// 6.2: what is located of any word's syndromes is so by hand, too: at most ten places, rising, with these syndromes.
func TestLocatedHaveThem(t *testing.T) {
	next := numbers(22)
	for range 500 {
		s := bch.Syndromes(random(next))
		if l, ok := Locate(s); ok && (len(l) > 10 || !slices.IsSorted(l) || !slices.Equal(syndromes(l...), s)) {
			t.Fatalf("Locate of %v = %v", s, l)
		}
	}
}

// Rules 3, 4 and 6: the syndromes stay, spare room included, whether located or not; the places are new memory, and the same again.
func TestLocateLeavesAlone(t *testing.T) {
	for _, places := range [][]int{{}, {0}, {0, 9, 126}, row(40, 10), row(3, 11)} {
		room := append(syndromes(places...), -7, -8, -9, -10)
		s := room[:20]
		kept := slices.Clone(room)
		l, ok := Locate(s)
		if !slices.Equal(room, kept) {
			t.Fatalf("Locate changed its numbers: %v", room)
		}
		want := slices.Clone(l)
		l = l[:cap(l)]
		for i := range l {
			l[i] = -1
		}
		if again, same := Locate(s); same != ok || !slices.Equal(again, want) || !slices.Equal(room, kept) {
			t.Fatalf("Locate again = %v, %t; want %v, %t", again, same, want, ok)
		}
	}
}
