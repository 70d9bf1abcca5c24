package dct

import (
	"math"
	"testing"

	"belfry/api"
	"belfry/lift"
)

const (
	highest = 1073741824 // 2^30, the greatest number of a frame that is held
	surely  = 16777216   // 2^24, the greatest one of a frame that comes back
)

// given are frames, their waves and their way back, worked out by another program.
var given = []struct {
	name           string
	f, waves, back api.Frame
}{
	{"1000 at the first place",
		api.Frame{1000, 0, 0, 0, 0, 0, 0, 0, 0, 0, 0, 0, 0, 0, 0, 0, 0, 0, 0, 0, 0, 0, 0, 0, 0, 0, 0, 0, 0, 0, 0, 0},
		api.Frame{250, 249, 248, 247, 242, 242, 235, 235, 226, 227, 214, 215, 201, 201, 186, 186, 167, 168, 148, 149, 128, 128, 106, 107, 83, 84, 60, 61, 36, 37, 11, 12},
		api.Frame{251, 250, 249, 247, 243, 243, 236, 235, 228, 226, 216, 214, 202, 201, 186, 185, 168, 169, 149, 148, 129, 128, 107, 106, 85, 84, 61, 60, 37, 36, 12, 11}},
	{"-1000 at the last place",
		api.Frame{0, 0, 0, 0, 0, 0, 0, 0, 0, 0, 0, 0, 0, 0, 0, 0, 0, 0, 0, 0, 0, 0, 0, 0, 0, 0, 0, 0, 0, 0, 0, -1000},
		api.Frame{-12, 11, -36, 35, -61, 60, -84, 83, -107, 107, -129, 129, -149, 149, -168, 168, -185, 185, -201, 201, -214, 215, -226, 226, -235, 236, -242, 243, -247, 247, -249, 250},
		api.Frame{-11, 12, -35, 37, -60, 61, -83, 84, -106, 107, -128, 129, -149, 149, -168, 168, -185, 187, -201, 202, -215, 216, -226, 227, -235, 237, -243, 244, -248, 249, -250, 251}},
	{"2^24 at the place 13",
		api.Frame{0, 0, 0, 0, 0, 0, 0, 0, 0, 0, 0, 0, 0, 16777216, 0, 0, 0, 0, 0, 0, 0, 0, 0, 0, 0, 0, 0, 0, 0, 0, 0, 0},
		api.Frame{3368775, -1793351, -4148780, -205862, 3949081, 2156188, -2816713, -3597596, 1019156, 4189203, 1019222, -3791545, -2816803, 2498465, 3949184, -615432, -4148814, -1413026, 3368798, 3107834, -1793317, -4068573, -205832, 4068609, 2156292, -3107810, -3597567, 1413062, 4189328, 615423, -3791670, -2498506},
		api.Frame{3368955, -1793172, -4148892, -205799, 3949239, 2156296, -2816802, -3597576, 1019183, 4189127, 1019214, -3791616, -2816805, 2498467, 3949102, -615415, -4148883, -1413086, 3368798, 3107833, -1793380, -4068592, -205736, 4068718, 2156276, -3107778, -3597518, 1413163, 4189221, 615440, -3791535, -2498640}},
	{"1 at all",
		api.Frame{1, 1, 1, 1, 1, 1, 1, 1, 1, 1, 1, 1, 1, 1, 1, 1, 1, 1, 1, 1, 1, 1, 1, 1, 1, 1, 1, 1, 1, 1, 1, 1},
		api.Frame{5, -1, 1, 0, 2, 0, -1, 0, 1, 0, 1, 0, 0, 0, 0, 0, 1, -1, 1, 0, 1, 0, 1, -1, 1, -1, 0, -1, 1, -2, 1, -1},
		api.Frame{1, -3, 2, -2, 0, 0, 0, -1, 1, 0, 0, 0, 0, 0, 0, 0, 0, 0, 0, -1, 1, 0, 0, 0, 1, 0, 2, 1, -1, 1, 1, 1}},
	{"1000 at all",
		api.Frame{1000, 1000, 1000, 1000, 1000, 1000, 1000, 1000, 1000, 1000, 1000, 1000, 1000, 1000, 1000, 1000, 1000, 1000, 1000, 1000, 1000, 1000, 1000, 1000, 1000, 1000, 1000, 1000, 1000, 1000, 1000, 1000},
		api.Frame{5095, -1697, 1024, -727, 574, -466, 401, -344, 312, -274, 257, -230, 221, -199, 195, -176, 176, -160, 162, -148, 151, -138, 147, -129, 142, -121, 141, -114, 144, -101, 168, 1},
		api.Frame{5096, -1697, 1024, -729, 574, -466, 401, -344, 313, -274, 258, -231, 222, -200, 196, -176, 178, -160, 162, -147, 153, -138, 148, -129, 143, -120, 142, -114, 144, -100, 166, 0}},
	{"-2^24 at all",
		api.Frame{-16777216, -16777216, -16777216, -16777216, -16777216, -16777216, -16777216, -16777216, -16777216, -16777216, -16777216, -16777216, -16777216, -16777216, -16777216, -16777216, -16777216, -16777216, -16777216, -16777216, -16777216, -16777216, -16777216, -16777216, -16777216, -16777216, -16777216, -16777216, -16777216, -16777216, -16777216, -16777216},
		api.Frame{-85477703, 28448214, -17178432, 12211130, -9621565, 7807058, -6738022, 5770113, -5229528, 4605603, -4312753, 3857698, -3704182, 3342516, -3278246, 2969372, -2969416, 2689696, -2742877, 2474670, -2577414, 2305086, -2461474, 2165917, -2390198, 2043850, -2368782, 1913659, -2428913, 1691446, -2801424, -317},
		api.Frame{-85482251, 28446681, -17178779, 12210449, -9621696, 7806814, -6737987, 5770030, -5229997, 4605313, -4312816, 3857650, -3704019, 3342155, -3277836, 2968327, -2970277, 2689663, -2743449, 2474656, -2577960, 2305099, -2461697, 2165652, -2390921, 2043613, -2369168, 1913138, -2429898, 1691269, -2802921, 647}},
	{"2^30 at all",
		api.Frame{1073741824, 1073741824, 1073741824, 1073741824, 1073741824, 1073741824, 1073741824, 1073741824, 1073741824, 1073741824, 1073741824, 1073741824, 1073741824, 1073741824, 1073741824, 1073741824, 1073741824, 1073741824, 1073741824, 1073741824, 1073741824, 1073741824, 1073741824, 1073741824, 1073741824, 1073741824, 1073741824, 1073741824, 1073741824, 1073741824, 1073741824, 1073741824},
		api.Frame{5470573014, -1820685663, 1099419580, -781512302, 615780072, -499651724, 431233380, -369287192, 334689794, -294758600, 276016190, -246892652, 237067593, -213921092, 209807748, -190039772, 190042639, -172140567, 175544100, -158378892, 164954428, -147525575, 157534398, -138618571, 152972690, -130806479, 151602069, -122474128, 155450405, -108252543, 179291146, 20322},
		api.Frame{5470864034, -1820587561, 1099441822, -781468744, 615788513, -499635908, 431231251, -369281847, 334719866, -294740109, 276020126, -246889715, 237057301, -213897859, 209781481, -189972937, 190097781, -172138365, 175580761, -158377981, 164989477, -147526361, 157548686, -138601711, 153018953, -130791229, 151626781, -122440852, 155513407, -108241140, 179386901, -41417}},
	{"2^30 and -2^30, by turns",
		api.Frame{1073741824, -1073741824, 1073741824, -1073741824, 1073741824, -1073741824, 1073741824, -1073741824, 1073741824, -1073741824, 1073741824, -1073741824, 1073741824, -1073741824, 1073741824, -1073741824, 1073741824, -1073741824, 1073741824, -1073741824, 1073741824, -1073741824, 1073741824, -1073741824, 1073741824, -1073741824, 1073741824, -1073741824, 1073741824, -1073741824, 1073741824, -1073741824},
		api.Frame{10410, 179334524, 108258782, 155471207, 122448095, 151589682, 130782398, 152960323, 138659613, 157566959, 147531290, 164975499, 158379678, 175552792, 172124950, 190039869, 190018375, 209784331, 213910761, 237045581, 246906984, 276026680, 294760364, 334690664, 369281289, 431217211, 499655074, 615777556, 781515872, 1099426401, 1820674848, 5470573742},
		api.Frame{61332, 179377906, 108263463, 155522300, 122439301, 151605196, 130818391, 153018485, 138607540, 157555553, 147512911, 164977269, 158363656, 175552102, 172145162, 190096071, 189994444, 209797404, 213914781, 237067189, 246885322, 276032747, 294742149, 334710374, 369243379, 431203029, 499640369, 615812140, 781492749, 1099457662, 1820562574, 5470875065}},
	{"rising",
		api.Frame{-1550, -1450, -1350, -1250, -1150, -1050, -950, -850, -750, -650, -550, -450, -350, -250, -150, -50, 50, 150, 250, 350, 450, 550, 650, 750, 850, 950, 1050, 1150, 1250, 1350, 1450, 1550},
		api.Frame{-2218, -3865, 1225, -1374, 791, -830, 583, -595, 463, -465, 390, -388, 336, -333, 301, -292, 275, -264, 255, -241, 240, -224, 232, -210, 227, -198, 227, -186, 237, -172, 295, -254},
		api.Frame{-2220, -3866, 1226, -1376, 789, -830, 584, -596, 463, -466, 389, -387, 337, -334, 303, -292, 276, -263, 256, -242, 243, -226, 232, -210, 227, -198, 226, -188, 236, -172, 296, -254}},
	{"small",
		api.Frame{9, -8, 4, 6, 9, -9, -3, 5, 6, -1, -4, -8, 7, 6, 1, -7, -2, 2, -8, 4, -5, 2, 3, 4, 0, -1, 5, -4, 0, 2, -5, 5},
		api.Frame{4, 5, 4, -2, 0, 4, -3, -2, 3, 2, -2, -7, -7, 4, 13, 9, 5, 3, 3, 9, -2, -2, 2, 0, 4, 2, 11, -5, 3, 6, 6, -3},
		api.Frame{4, 3, 3, 0, 0, 5, -3, -2, 2, 0, -1, -8, -7, 3, 13, 10, 4, 4, 5, 10, -1, -2, 2, 0, 3, 2, 12, -4, 2, 7, 6, -2}},
	{"samples",
		api.Frame{-1392, 24857, 16415, -26967, -32237, -1881, -15208, -7216, 6928, 15223, -1287, 8436, 26296, 24383, 28832, -24250, 9789, -12266, -3369, 21347, -1524, -27929, -28607, 32322, 6706, -23327, -22158, -13149, 17618, 16275, -13152, -17968},
		api.Frame{3452, 749, -28529, 1710, 28098, 28553, 19696, -884, 10790, 6015, 16820, -24988, -32169, 35222, -38542, 4704, -21172, -37328, -10677, 8525, -23621, 10636, 10401, 4902, -2493, -9294, 18910, 10510, -23500, -6113, 5027, 3247},
		api.Frame{3452, 749, -28530, 1708, 28099, 28552, 19694, -885, 10790, 6016, 16819, -24990, -32171, 35222, -38540, 4704, -21172, -37327, -10679, 8527, -23623, 10637, 10399, 4901, -2491, -9292, 18907, 10510, -23500, -6113, 5028, 3247}},
	{"great",
		api.Frame{-10294109, 12854758, -5612735, -3964382, 6622376, 12296457, 11011278, 13126981, -303207, 1657816, -7146208, -4800941, -8758881, 1142667, 13806632, 3527915, -5708428, -5079606, -4960054, 15443990, 6547896, 5238781, 12395715, -1767267, -16441097, -13846375, 5479923, 4658914, -495084, -11413538, 789688, 13291308},
		api.Frame{8169174, 2526304, -1684673, 4186800, -15499625, -12111804, -1480063, -11169853, 12589170, 19034842, -12097948, 1092552, 3046209, 401148, 1651418, -21992557, 10381358, -9653754, -3616948, -6220612, -7381483, -11848981, 3274702, -10505994, -6028497, -3596150, 7047007, -6549691, -773709, -3256431, -5886463, -2692031},
		api.Frame{8169123, 2526164, -1685211, 4186629, -15500435, -12112047, -1480178, -11170069, 12589186, 19033989, -12097968, 1092403, 3046171, 401188, 1651357, -21993185, 10382056, -9653839, -3616478, -6221013, -7381011, -11849325, 3274722, -10506503, -6028395, -3596060, 7047127, -6549923, -773299, -3256370, -5885939, -2692691}},
	{"the greatest",
		api.Frame{664828756, -394140367, 603816319, 1055532337, -36901334, 93169135, 998985972, 1073226477, -804131148, -359449901, 1028155541, 908133300, 649097913, -490654603, 732014282, 426191830, 591933550, 1030344431, -361651539, 821828348, -650037852, 709415599, -922052919, -1061585242, 809937760, -794823563, -856532701, 427941795, -675411921, -420855060, -606636603, 876509748},
		api.Frame{1452729783, 689607838, -1124670625, 709856790, 99367135, -298481741, -209415293, 34595844, -527114818, -1435309, 401738648, 542695300, 110523669, -896690431, -1046962813, 147439845, 620629520, 690034041, 1791751433, -481159995, 909411907, -39644868, -148837828, 637198595, -684115339, 433983539, 1386549824, -1122691431, -194573264, 22252754, 404880724, -774650529},
		api.Frame{1452818124, 689568195, -1124659523, 709831921, 99392349, -298515247, -209370076, 34591953, -527104806, -1424479, 401734566, 542728264, 110558949, -896695911, -1046926480, 147410522, 620638332, 689987345, 1791729214, -481175755, 909453897, -39681353, -148843645, 637218203, -684089299, 433987713, 1386538026, -1122732115, -194543553, 22218281, 404838281, -774664937}},
}

// numbers answers a source of words that is the same in each run.
func numbers(seed uint64) func() uint64 {
	return func() uint64 {
		seed += 0x9e3779b97f4a7c15
		z := (seed ^ seed>>30) * 0xbf58476d1ce4e5b9
		z = (z ^ z>>27) * 0x94d049bb133111eb
		return z ^ z>>31
	}
}

// move is one turn of the chapter's rule: of two of a wheel's 32 numbers, which are crossed, or not.
type move struct {
	i, j, k int
	crossed bool
}

// nibble answers a number's four lowest bits, read backward one by one.
func nibble(k int) int {
	n := 0
	for range 4 {
		n *= 2
		if k%2 != 0 {
			n++
		}
		k /= 2
	}
	return n
}

// moves are all turns of the chapter's rule, in its order; the point n has the numbers 2 n and 2 n + 1.
func moves() []move {
	var l []move
	for n := 0; n < 16; n++ {
		l = append(l, move{i: 2 * n, j: 2*n + 1, k: -(8*n + 2)})
	}
	for size := 16; size > 1; size /= 2 {
		for block := 0; block < 16/size; block++ {
			for i := 0; i < size/2; i++ {
				a := 2 * (block*size + i)
				b := a + size
				l = append(l, move{a, b, 64, true}, move{a + 1, b + 1, 64, true}, move{i: b, j: b + 1, k: -(i * (512 / size))})
			}
		}
	}
	for k := 0; k < 16; k++ {
		l = append(l, move{i: 2 * nibble(k), j: 2*nibble(k) + 1, k: -(8*k + 2)})
	}
	return l
}

// byHand answers a frame's waves by the chapter's rule, step by step.
func byHand(f api.Frame) api.Frame {
	var s, w [32]int
	for n := range 16 {
		s[2*n], s[2*n+1] = f[2*n], f[31-2*n]
	}
	for _, m := range moves() {
		a, b := lift.Turn(s[m.i], s[m.j], m.k)
		if m.crossed {
			a, b = b, a
		}
		s[m.i], s[m.j] = a, b
	}
	for k := range 16 {
		w[2*k], w[31-2*k] = s[2*nibble(k)], -s[2*nibble(k)+1]
	}
	return w
}

// backByHand answers the way back by the chapter's rule, the last step undone first.
func backByHand(f api.Frame) api.Frame {
	var s, w [32]int
	for k := range 16 {
		s[2*nibble(k)], s[2*nibble(k)+1] = f[2*k], -f[31-2*k]
	}
	l := moves()
	for len(l) > 0 {
		m := l[len(l)-1]
		l = l[:len(l)-1]
		a, b := s[m.i], s[m.j]
		if m.crossed {
			a, b = b, a
		}
		s[m.i], s[m.j] = lift.Back(a, b, m.k)
	}
	for n := range 16 {
		w[2*n], w[31-2*n] = s[2*n], s[2*n+1]
	}
	return w
}

// greatest answers a frame's greatest number, without its sign.
func greatest(f api.Frame) int {
	n := 0
	for _, x := range f {
		n = max(n, x, -x)
	}
	return n
}

// like answers a frame of 32 like numbers.
func like(x int) api.Frame {
	var f api.Frame
	for i := range f {
		f[i] = x
	}
	return f
}

// alone answers a frame with one number that isn't 0.
func alone(i, x int) api.Frame {
	var f api.Frame
	f[i] = x
	return f
}

// edges are frames with one number alone, at each place, and frames of like numbers, or of those and their negatives, by turns, none greater than the greatest one.
func edges(most int) []api.Frame {
	l := []api.Frame{{}}
	for _, x := range []int{1, -1, 2, 255, -256, 1000, 1 << 20, surely - 1, 1 - surely, surely, -surely, highest - 1, 1 - highest, highest, -highest} {
		if max(x, -x) > most {
			continue
		}
		for i := range api.N {
			l = append(l, alone(i, x))
		}
		for period := 1; period <= 32; period *= 2 {
			f := like(x)
			for i := range f {
				if i/period%2 == 1 {
					f[i] = -x
				}
			}
			l = append(l, f)
		}
	}
	return l
}

// extreme are frames of the greatest number and its negative alone, with the signs by which one wave is as great as can be, for each wave.
func extreme(most int) []api.Frame {
	var l []api.Frame
	for k := range api.N {
		f := like(most)
		for n := range f {
			if share(n, k) < 0 {
				f[n] = -most
			}
		}
		l = append(l, f)
	}
	return l
}

// some are frames of numbers of both signs and of many sizes, none greater than the greatest one.
func some(most, count int) []api.Frame {
	var l []api.Frame
	next := numbers(uint64(most))
	for range count {
		size := most >> (next() % 28)
		var f api.Frame
		for i := range f {
			f[i] = int(next()%uint64(2*size+1)) - size
			if next()%16 == 0 {
				f[i] = size
			}
			if next()%16 == 0 {
				f[i] = -size
			}
		}
		l = append(l, f)
	}
	return l
}

// frames are all of these.
func frames(most int) []api.Frame {
	return append(append(edges(most), extreme(most)...), some(most, 1000)...)
}

// share answers what of the number n goes to the wave k, were nothing rounded: the turns ahead of the wheel, on it and behind it are one, by an angle for each two points.
func share(n, k int) float64 {
	i, j := n/2, k/2
	if n%2 == 1 {
		i = (31 - n) / 2
	}
	if k%2 == 1 {
		j = (31 - k) / 2
	}
	angle := 2 * math.Pi / 512 * float64(32*i*j+8*i+2+8*j+2)
	switch {
	case n%2 != k%2:
		return math.Sin(angle) / 4
	case n%2 == 1:
		return -math.Cos(angle) / 4
	}
	return math.Cos(angle) / 4
}

// tooGreat are frames with a number that is too great, or too small: the first, the last, or one between, or all.
func tooGreat() []api.Frame {
	var l []api.Frame
	for _, x := range []int{highest + 1, -highest - 1, 1 << 31, -1 << 31, 1 << 40, -1 << 62, math.MaxInt, math.MaxInt - 1, math.MinInt, math.MinInt + 1} {
		l = append(l, like(x))
		for _, y := range []int{0, -3, 1000, highest, -highest} {
			for i := range api.N {
				f := like(y)
				f[i] = x
				l = append(l, f)
			}
		}
	}
	return l
}

// 10.1: Held of numbers from -2^30 to 2^30.
func TestHeld(t *testing.T) {
	for _, f := range frames(highest) {
		if !Held(f) {
			t.Fatalf("not held: %d", f)
		}
	}
	for _, f := range tooGreat() {
		if Held(f) {
			t.Fatalf("held: %d", f)
		}
	}
}

// 10.1: a frame that isn't held stays, with Waves and with Back.
func TestNotHeldStays(t *testing.T) {
	for _, f := range tooGreat() {
		if w := Waves(f); w != f {
			t.Fatalf("Waves(%d) = %d", f, w)
		}
		if b := Back(f); b != f {
			t.Fatalf("Back(%d) = %d", f, b)
		}
	}
}

// 10.1: waves that are too great, though their frame is held, stay with Back, as any such frame does.
func TestWavesTooGreatStay(t *testing.T) {
	for _, x := range []int{highest, -highest} {
		w := Waves(like(x))
		if Held(w) || w == like(x) {
			t.Errorf("Waves of %d at all: %d", x, w)
		}
		if b := Back(w); b != w {
			t.Errorf("Back(%d) = %d", w, b)
		}
	}
}

// 10.1: Flip of 0 to 15.
func TestFlip(t *testing.T) {
	want := [16]int{0, 8, 4, 12, 2, 10, 6, 14, 1, 9, 5, 13, 3, 11, 7, 15}
	for k, n := range want {
		if m := Flip(k); m != n {
			t.Errorf("Flip(%d) = %d, not %d", k, m, n)
		}
		if m := Flip(n); m != k {
			t.Errorf("Flip(%d) = %d, not %d", n, m, k)
		}
	}
}

// 10.1: Flip hangs on the four lowest bits alone.
func TestFlipOfLowest(t *testing.T) {
	for _, c := range []struct{ k, want int }{
		{16, 0}, {17, 8}, {31, 15}, {32, 0}, {1<<40 + 1, 8}, {math.MaxInt, 15}, {math.MaxInt - 1, 7},
		{-1, 15}, {-2, 7}, {-3, 11}, {-8, 1}, {-15, 8}, {-16, 0}, {-17, 15}, {math.MinInt, 0}, {math.MinInt + 1, 8},
	} {
		if n := Flip(c.k); n != c.want {
			t.Errorf("Flip(%d) = %d, not %d", c.k, n, c.want)
		}
	}
	for d := range 1000 {
		for _, k := range []int{d, -d, math.MinInt + d, math.MaxInt - d, 1<<31 - d, -1<<31 + d} {
			rest := k % 16
			if rest < 0 {
				rest += 16
			}
			if n := Flip(k); n != nibble(rest) {
				t.Fatalf("Flip(%d) = %d, not %d", k, n, nibble(rest))
			}
		}
	}
}

// 10.1: waves and the way back of frames worked out by another program.
func TestGiven(t *testing.T) {
	for _, c := range given {
		if w := Waves(c.f); w != c.waves {
			t.Errorf("%s: Waves(%d) = %d, not %d", c.name, c.f, w, c.waves)
		}
		if b := Back(c.f); b != c.back {
			t.Errorf("%s: Back(%d) = %d, not %d", c.name, c.f, b, c.back)
		}
	}
}

// 10.1: waves and the way back by the chapter's rule, done by hand, of all frames that are held.
func TestByHand(t *testing.T) {
	for _, most := range []int{300, surely, highest} {
		for _, f := range frames(most) {
			if w, want := Waves(f), byHand(f); w != want {
				t.Fatalf("Waves(%d) = %d, not %d", f, w, want)
			}
			if b, want := Back(f), backByHand(f); b != want {
				t.Fatalf("Back(%d) = %d, not %d", f, b, want)
			}
		}
	}
}

// 10.1: the waves are what turns that round nothing would make of a frame, but for the 256th part of the greatest number, and 16: a check of the whole from elsewhere.
func TestShares(t *testing.T) {
	for _, most := range []int{300, surely, highest} {
		for _, f := range frames(most) {
			w, b := Waves(f), Back(f)
			bound := float64(greatest(f))/256 + 16
			for k := range w {
				there, back := 0.0, 0.0
				for n, x := range f {
					there += float64(x) * share(n, k)
					back += float64(x) * share(k, n)
				}
				if math.Abs(there-float64(w[k])) > bound || math.Abs(back-float64(b[k])) > bound {
					t.Fatalf("of %d the number %d: %d and %d, not some %f and %f", f, k, w[k], b[k], there, back)
				}
			}
		}
	}
}

// 10.1: what a call answers hangs on its frame alone (rule 6), and a frame that was handed in stays (rule 4).
func TestTwice(t *testing.T) {
	for _, f := range some(surely, 50) {
		g := f
		w, b := Waves(f), Back(f)
		if Waves(b) != f || Back(w) != f || Waves(f) != w || Back(f) != b || f != g {
			t.Fatalf("another answer for %d", f)
		}
	}
}

// 10.2: Back undoes Waves, and Waves Back.
func TestThereAndBack(t *testing.T) {
	for _, most := range []int{1, 300, 1 << 20, surely} {
		for _, f := range frames(most) {
			if b := Back(Waves(f)); b != f {
				t.Fatalf("%d: there and back %d", f, b)
			}
			if w := Waves(Back(f)); w != f {
				t.Fatalf("%d: back and there %d", f, w)
			}
		}
	}
}

// 10.2: the same of each number from -2^24 to 2^24 about the edges, at each place, beside others.
func TestThereAndBackAtEachPlace(t *testing.T) {
	next := numbers(10)
	for i := range api.N {
		for d := range 20 {
			for _, x := range []int{d, -d, surely - d, d - surely, 1<<20 - d, int(next()%surely) - 7} {
				f := like(int(next()%surely) - surely/2)
				f[i] = x
				if Back(Waves(f)) != f || Waves(Back(f)) != f {
					t.Fatalf("%d doesn't come back", f)
				}
			}
		}
	}
}

// 10.2: of a frame of nothing the waves are nothing.
func TestNothing(t *testing.T) {
	if w := Waves(api.Frame{}); w != (api.Frame{}) {
		t.Errorf("Waves of nothing: %d", w)
	}
	if b := Back(api.Frame{}); b != (api.Frame{}) {
		t.Errorf("Back of nothing: %d", b)
	}
}

// squares answers the sum of a frame's squares: of numbers to 2^27 no more than 2^59.
func squares(f api.Frame) int {
	n := 0
	for _, x := range f {
		n += x * x
	}
	return n
}

// 10.2: the squares' sums of a frame and of its waves are alike, but for an eighth of it, and 2^24 more than 2^12 times the greatest number.
func TestSquares(t *testing.T) {
	for _, most := range []int{1, 300, 1 << 20, surely} {
		for _, f := range frames(most) {
			sum := squares(f)
			off := squares(Waves(f)) - sum
			if max(off, -off) > sum/8+4096*greatest(f)+1<<24 {
				t.Fatalf("%d: the squares' sum is %d, of the waves %d more", f, sum, off)
			}
		}
	}
}

// 10.2: of great frames the squares' sum stays even nearer: no turn loses or gains as much as a 1024th part.
func TestSquaresOfGreat(t *testing.T) {
	for _, f := range append(extreme(surely), like(surely), like(-surely), like(surely-1)) {
		sum := squares(f)
		off := squares(Waves(f)) - sum
		if max(off, -off) > sum/256 {
			t.Fatalf("%d: the squares' sum is %d, of the waves %d more", f, sum, off)
		}
	}
}

// 10.2: no wave is more than 8 times the greatest number, and 256.
func TestGreatestWave(t *testing.T) {
	for _, most := range []int{1, 2, 300, 1 << 20, surely, highest} {
		for _, f := range frames(most) {
			if w := Waves(f); greatest(w) > 8*greatest(f)+256 {
				t.Fatalf("of %d a wave is %d", f, greatest(w))
			}
		}
	}
}

// 10.1 and 10.2: with like numbers the first wave is the greatest one, some five times the number.
func TestLikeNumbers(t *testing.T) {
	for _, x := range []int{300, -300, 1000, -1000, 1 << 20, surely, -surely, highest, -highest} {
		w := Waves(like(x))
		if r := float64(w[0]) / float64(x); r < 5.05 || r > 5.15 {
			t.Errorf("of %d at all the first wave is %d", x, w[0])
		}
		for k, y := range w[1:] {
			if max(y, -y) > max(w[0], -w[0])/2 {
				t.Errorf("of %d at all the wave %d is %d, the first one %d", x, k+1, y, w[0])
			}
		}
	}
}
