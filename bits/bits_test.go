package bits

import (
	"fmt"
	"math"
	"strings"
	"testing"

	"belfry/api"
)

// wrongSizes are no numbers of bits: the nearest to 0 and 56, and far ones.
var wrongSizes = []int{-1, -2, -56, math.MinInt, 57, 58, 63, 64, 65, 256, 1 << 32, math.MaxInt}

// numbers answers a source of words that is the same in each run.
func numbers(seed uint64) func() uint64 {
	return func() uint64 {
		seed += 0x9e3779b97f4a7c15
		z := (seed ^ seed>>30) * 0xbf58476d1ce4e5b9
		z = (z ^ z>>27) * 0x94d049bb133111eb
		return z ^ z>>31
	}
}

// digits writes a number's n bits as the digits 0 and 1, the highest first.
func digits(x, n int) string {
	if n == 0 {
		return ""
	}
	return fmt.Sprintf("%0*b", n, x)
}

// packed answers the bytes of digits, worked out without shifts: what bits.go must agree with.
func packed(s string) string {
	for len(s)%8 != 0 {
		s += "0"
	}
	var l []byte
	for ; s != ""; s = s[8:] {
		sum := 0
		for i, worth := range []int{128, 64, 32, 16, 8, 4, 2, 1} {
			if s[i] == '1' {
				sum += worth
			}
		}
		l = append(l, byte(sum))
	}
	return string(l)
}

// mustPut fails unless the number is laid.
func mustPut(t *testing.T, w *Writer, x, n int) {
	t.Helper()
	if e := w.Put(x, n); e != api.OK {
		t.Fatalf("Put(%d, %d) = %d, want OK", x, n, e)
	}
}

// mustGet fails unless the number is read.
func mustGet(t *testing.T, r *Reader, n, want int) {
	t.Helper()
	if x, e := r.Get(n); x != want || e != api.OK {
		t.Fatalf("Get(%d) = %d, %d, want %d, OK", n, x, e, want)
	}
}

// mustRefuse fails unless Get answers the error, and nothing beside it.
func mustRefuse(t *testing.T, r *Reader, n int, want api.Errno) {
	t.Helper()
	if x, e := r.Get(n); x != 0 || e != want {
		t.Fatalf("Get(%d) = %d, %d, want 0, %d", n, x, e, want)
	}
}

// mustBeLaid fails unless the digits, and no others, were laid.
func mustBeLaid(t *testing.T, w *Writer, want string) {
	t.Helper()
	if w.Bits() != len(want) || w.Bytes() != packed(want) {
		t.Fatalf("laid: %d bits, %x; want %d, %x", w.Bits(), w.Bytes(), len(want), packed(want))
	}
}

// 3.1 and 3.2: the chapter's example, laid and read.
func TestExample(t *testing.T) {
	w := &Writer{}
	mustPut(t, w, 5, 3)
	mustPut(t, w, 1, 1)
	if w.Bits() != 4 || w.Bytes() != "\xb0" {
		t.Errorf("laid: %d bits, %x; want 4, b0", w.Bits(), w.Bytes())
	}
	r := New(w.Bytes())
	mustGet(t, r, 3, 5)
	mustGet(t, r, 1, 1)
	if r.Left() != 4 || !r.Zeros() {
		t.Errorf("left: %d bits, zeros %v; want 4, true", r.Left(), r.Zeros())
	}
}

// 3.1: the highest bit is first, in a byte's highest bit; numbers go on across a byte's end.
func TestPut(t *testing.T) {
	for _, c := range []struct {
		puts [][2]int // a number, and in how many bits
		bits int
		want string
	}{
		{nil, 0, ""},
		{[][2]int{{0, 0}}, 0, ""},
		{[][2]int{{0, 0}, {0, 0}, {1, 1}, {0, 0}}, 1, "\x80"},
		{[][2]int{{0, 1}}, 1, "\x00"},
		{[][2]int{{1, 1}}, 1, "\x80"},
		{[][2]int{{1, 2}}, 2, "\x40"},
		{[][2]int{{1, 7}}, 7, "\x02"},
		{[][2]int{{1, 8}}, 8, "\x01"},
		{[][2]int{{1, 9}}, 9, "\x00\x80"},
		{[][2]int{{0, 8}, {0, 1}}, 9, "\x00\x00"},
		{[][2]int{{0x123, 12}, {0x4567, 16}}, 28, "\x12\x34\x56\x70"},
		{[][2]int{{0, 7}, {3, 2}}, 9, "\x01\x80"},
		{[][2]int{{1, 3}, {0x1ff, 9}, {0, 3}, {1, 1}}, 16, "\x3f\xf1"},
		{[][2]int{{1, 56}}, 56, "\x00\x00\x00\x00\x00\x00\x01"},
		{[][2]int{{1 << 55, 56}}, 56, "\x80\x00\x00\x00\x00\x00\x00"},
		{[][2]int{{1<<56 - 1, 56}}, 56, "\xff\xff\xff\xff\xff\xff\xff"},
		{[][2]int{{0x0123456789abcd, 56}, {0xef, 8}}, 64, "\x01\x23\x45\x67\x89\xab\xcd\xef"},
		{[][2]int{{0, 4}, {0x123456789abcde, 56}}, 60, "\x01\x23\x45\x67\x89\xab\xcd\xe0"},
		{[][2]int{{0, 7}, {1<<56 - 1, 56}}, 63, "\x01\xff\xff\xff\xff\xff\xff\xfe"},
	} {
		w := &Writer{}
		for _, p := range c.puts {
			mustPut(t, w, p[0], p[1])
		}
		if w.Bits() != c.bits || w.Bytes() != c.want {
			t.Errorf("%v: %d bits, %x; want %d, %x", c.puts, w.Bits(), w.Bytes(), c.bits, c.want)
		}
	}
}

// 3.1: each number of bits from 0 to 56 is right, with the least and the greatest number, at each place in a byte.
func TestPutAllSizes(t *testing.T) {
	for ahead := range 9 {
		for n := range 57 {
			for _, x := range []int{0, 1<<n - 1, (1<<n - 1) / 3, 1 << n / 2} {
				w := &Writer{}
				mustPut(t, w, 1<<ahead-1, ahead)
				mustPut(t, w, x, n)
				mustPut(t, w, 1, 1)
				mustBeLaid(t, w, strings.Repeat("1", ahead)+digits(x, n)+"1")
			}
		}
	}
}

// 3.1: ErrArg of another number of bits, ahead of ErrRange, and nothing is laid (rule 3).
func TestPutWrongSize(t *testing.T) {
	for ahead := range 9 {
		w := &Writer{}
		mustPut(t, w, 1<<ahead-1, ahead)
		laid := strings.Repeat("1", ahead)
		for _, n := range wrongSizes {
			for _, x := range []int{0, 1, -1, 1 << 56, math.MaxInt, math.MinInt} {
				if e := w.Put(x, n); e != api.ErrArg {
					t.Errorf("Put(%d, %d) = %d, want ErrArg", x, n, e)
				}
				mustBeLaid(t, w, laid)
			}
		}
		mustPut(t, w, 5, 3)
		mustBeLaid(t, w, laid+"101")
	}
}

// 3.1: ErrRange of a number below 0, or of 2^n and above, and nothing is laid (rule 3).
func TestPutOutOfRange(t *testing.T) {
	for n := range 57 {
		w := &Writer{}
		mustPut(t, w, 2, 3)
		for _, x := range []int{-1, -2, -1 << n, -1<<n - 1, math.MinInt, 1 << n, 1<<n + 1, 1 << 57, 1 << 62, math.MaxInt} {
			if e := w.Put(x, n); e != api.ErrRange {
				t.Errorf("Put(%d, %d) = %d, want ErrRange", x, n, e)
			}
			mustBeLaid(t, w, "010")
		}
		mustPut(t, w, 1<<n-1, n)
		mustBeLaid(t, w, "010"+strings.Repeat("1", n))
	}
}

// 3.1: of nil each Put is ErrArg, whatever its arguments; it has no bits, and no bytes.
func TestNilWriter(t *testing.T) {
	var w *Writer
	for _, n := range append([]int{0, 1, 8, 56}, wrongSizes...) {
		for _, x := range []int{0, 1, -1, 256, math.MaxInt, math.MinInt} {
			if e := w.Put(x, n); e != api.ErrArg {
				t.Errorf("Put(%d, %d) of nil = %d, want ErrArg", x, n, e)
			}
		}
	}
	if w.Bits() != 0 || w.Bytes() != "" {
		t.Errorf("of nil: %d bits, %q; want 0, nothing", w.Bits(), w.Bytes())
	}
}

// 3.1: of nothing laid there are no bytes, asked ahead of a refused call and behind it.
func TestNothingLaid(t *testing.T) {
	w := &Writer{}
	mustBeLaid(t, w, "")
	w.Put(1, 0)
	w.Put(0, -1)
	mustBeLaid(t, w, "")
	mustPut(t, w, 0, 0)
	mustBeLaid(t, w, "")
}

// 3.1: the bytes may be asked at any time: the padding isn't laid, and what was answered stays.
func TestBytesBetween(t *testing.T) {
	next := numbers(3)
	w, laid := &Writer{}, ""
	var answers, wants []string
	for range 300 {
		x, n := int(next()%8), 3
		mustPut(t, w, x, n)
		laid += digits(x, n)
		mustBeLaid(t, w, laid)
		mustBeLaid(t, w, laid)
		answers, wants = append(answers, w.Bytes()), append(wants, packed(laid))
	}
	for i, s := range answers {
		if s != wants[i] {
			t.Fatalf("the answer %d became %x, want %x", i, s, wants[i])
		}
	}
}

// Rule 6: Writers have nothing in common, nor have Readers of one text.
func TestApart(t *testing.T) {
	a, b := &Writer{}, &Writer{}
	mustPut(t, a, 5, 3)
	mustPut(t, b, 1, 2)
	mustPut(t, a, 0, 1)
	mustPut(t, b, 255, 8)
	mustBeLaid(t, a, "1010")
	mustBeLaid(t, b, "0111111111")
	r, s := New("\xa5\x3c"), New("\xa5\x3c")
	mustGet(t, r, 4, 10)
	mustGet(t, s, 8, 0xa5)
	mustGet(t, r, 4, 5)
	mustGet(t, s, 8, 0x3c)
	mustGet(t, r, 8, 0x3c)
}

// 3.2: numbers are read from a byte's highest bit on, across its end; Left falls by as many.
func TestGet(t *testing.T) {
	r := New("\x01\x23\x45\x67\x89\xab\xcd\xef\x80\xff")
	left := 80
	for _, c := range [][2]int{{0, 0}, {7, 0}, {2, 2}, {3, 2}, {0, 0}, {12, 0x345}, {1, 0}, {15, 0x6789}, {24, 0xabcdef}, {1, 1}, {9, 3}, {6, 63}, {0, 0}} {
		mustGet(t, r, c[0], c[1])
		left -= c[0]
		if r.Left() != left {
			t.Fatalf("Left = %d behind Get(%d), want %d", r.Left(), c[0], left)
		}
	}
	mustRefuse(t, r, 1, api.ErrShort)
}

// 3.2: 56 bits are read at each place in a byte, the highest set or not.
func TestGetMost(t *testing.T) {
	for ahead := range 9 {
		for _, x := range []int{0, 1, 1 << 55, 1<<56 - 1, 0x0123456789abcd, 0xfedcba98765432} {
			r := New(packed(strings.Repeat("0", ahead) + digits(x, 56) + "1"))
			mustGet(t, r, ahead, 0)
			mustGet(t, r, 56, x)
			mustGet(t, r, 1, 1)
		}
	}
}

// 3.2: ErrArg of another number of bits, ahead of ErrShort, and it stays where it stands (rule 3).
func TestGetWrongSize(t *testing.T) {
	for ahead := range 25 {
		r := New("\xff\x00\xff")
		mustGet(t, r, ahead, 0xff00ff>>(24-ahead))
		for _, n := range wrongSizes {
			mustRefuse(t, r, n, api.ErrArg)
		}
		if r.Left() != 24-ahead {
			t.Fatalf("Left = %d, want %d", r.Left(), 24-ahead)
		}
		mustGet(t, r, 24-ahead, 0xff00ff&(1<<(24-ahead)-1))
	}
	long := New(strings.Repeat("\xff", 20))
	for _, n := range wrongSizes {
		mustRefuse(t, long, n, api.ErrArg)
	}
	if long.Left() != 160 {
		t.Errorf("Left = %d, want 160", long.Left())
	}
}

// 3.2: ErrShort if fewer bits are left, not if as many are; it stays where it stands (rule 3).
func TestGetShort(t *testing.T) {
	const text = 0xc35a7e
	for left := range 25 {
		r := New("\xc3\x5a\x7e")
		mustGet(t, r, 24-left, text>>left)
		for n := left + 1; n <= 56; n++ {
			mustRefuse(t, r, n, api.ErrShort)
		}
		if r.Left() != left {
			t.Fatalf("Left = %d, want %d", r.Left(), left)
		}
		mustGet(t, r, 0, 0)
		mustGet(t, r, left, text&(1<<left-1))
		if r.Left() != 0 || !r.Zeros() {
			t.Fatalf("at the end: %d left, zeros %v", r.Left(), r.Zeros())
		}
		mustGet(t, r, 0, 0)
		mustRefuse(t, r, 1, api.ErrShort)
	}
}

// 3.2: an empty text has no bits; no bits can be read of it.
func TestEmptyText(t *testing.T) {
	r := New("")
	if r == nil {
		t.Fatal("New of nothing is nil")
	}
	if r.Left() != 0 || !r.Zeros() {
		t.Errorf("of nothing: %d left, zeros %v; want 0, true", r.Left(), r.Zeros())
	}
	mustGet(t, r, 0, 0)
	mustRefuse(t, r, 1, api.ErrShort)
	mustRefuse(t, r, 56, api.ErrShort)
	mustRefuse(t, r, 57, api.ErrArg)
	mustRefuse(t, r, -1, api.ErrArg)
}

// 3.2: of nil each Get is ErrShort, of no bits, too, but ErrArg where the number of bits is wrong.
func TestNilReader(t *testing.T) {
	var r *Reader
	for n := range 57 {
		mustRefuse(t, r, n, api.ErrShort)
	}
	for _, n := range wrongSizes {
		mustRefuse(t, r, n, api.ErrArg)
	}
	if r.Left() != 0 || !r.Zeros() {
		t.Errorf("of nil: %d left, zeros %v; want 0, true", r.Left(), r.Zeros())
	}
}

// 3.2: Zeros tells of what is left alone, from each place, and doesn't go on.
func TestZeros(t *testing.T) {
	const size = 24
	for one := range size {
		text := digits(1<<(size-1-one), size)
		for at := range size + 1 {
			r := New(packed(text))
			mustGet(t, r, at, 1<<at>>(one+1))
			if want := at > one; r.Zeros() != want || r.Zeros() != want {
				t.Errorf("Zeros of %s from %d on = %v, want %v", text, at, r.Zeros(), want)
			}
			if r.Left() != size-at {
				t.Fatalf("Left = %d behind Zeros, want %d", r.Left(), size-at)
			}
		}
	}
	if r := New(strings.Repeat("\x00", 100)); !r.Zeros() || r.Left() != 800 {
		t.Errorf("zeros %v, %d left; want true, 800", r.Zeros(), r.Left())
	}
	if r := New(strings.Repeat("\x00", 100) + "\x01"); r.Zeros() || r.Left() != 808 {
		t.Errorf("zeros %v, %d left; want false, 808", r.Zeros(), r.Left())
	}
}

// 3.3: what was laid is read again, number by number; behind it is the padding alone.
func TestLaidIsRead(t *testing.T) {
	next := numbers(1)
	for range 300 {
		w, laid := &Writer{}, ""
		var puts [][2]int
		for range next() % 100 {
			n := int(next() % 57)
			x := int(next() & (1<<n - 1))
			mustPut(t, w, x, n)
			puts = append(puts, [2]int{x, n})
			laid += digits(x, n)
		}
		mustBeLaid(t, w, laid)
		r := New(w.Bytes())
		for _, p := range puts {
			mustGet(t, r, p[1], p[0])
		}
		if r.Left() != len(w.Bytes())*8-w.Bits() || r.Left() > 7 || !r.Zeros() {
			t.Fatalf("behind %d bits: %d left, zeros %v", w.Bits(), r.Left(), r.Zeros())
		}
	}
}

// 3.3: the bytes of a number laid in two parts, wherever it is cut, are those of it laid at once; so is it read.
func TestPartsAreOne(t *testing.T) {
	next := numbers(2)
	for n := range 57 {
		x := int(next() & (1<<n - 1))
		whole := &Writer{}
		mustPut(t, whole, 1, 5)
		mustPut(t, whole, x, n)
		for low := range n + 1 {
			parts := &Writer{}
			mustPut(t, parts, 1, 5)
			mustPut(t, parts, x>>low, n-low)
			mustPut(t, parts, x&(1<<low-1), low)
			if parts.Bits() != whole.Bits() || parts.Bytes() != whole.Bytes() {
				t.Fatalf("%d in %d and %d bits: %x, want %x", x, n-low, low, parts.Bytes(), whole.Bytes())
			}
			r := New(whole.Bytes())
			mustGet(t, r, 5, 1)
			mustGet(t, r, n-low, x>>low)
			mustGet(t, r, low, x&(1<<low-1))
		}
	}
}

// 3.3: bits laid one by one are as those laid at once, in a long row.
func TestOneByOne(t *testing.T) {
	next := numbers(4)
	at, by := &Writer{}, &Writer{}
	for range 2000 {
		x := int(next() & (1<<53 - 1))
		mustPut(t, at, x, 53)
		for _, d := range digits(x, 53) {
			mustPut(t, by, int(d-'0'), 1)
		}
	}
	if at.Bits() != 106000 || by.Bits() != 106000 || at.Bytes() != by.Bytes() {
		t.Fatalf("%d and %d bits, bytes alike: %v", at.Bits(), by.Bits(), at.Bytes() == by.Bytes())
	}
	r, s := New(at.Bytes()), New(at.Bytes())
	for range 2000 {
		x := 0
		for range 53 {
			bit, e := s.Get(1)
			if e != api.OK {
				t.Fatalf("Get(1) = %d", e)
			}
			x = 2*x + bit
		}
		mustGet(t, r, 53, x)
	}
}
