package code

import (
	"math"
	"strconv"
	"testing"

	"belfry/api"
	"belfry/pack"
)

const (
	least    = 12      // bytes of the shortest packet
	greatest = 24      // bytes of the longest one
	mostCoef = 1048576 // 2^20, the greatest coefficient
	most     = 12      // how many pulses a band has at most
)

// given are frames, sizes, the frame's shapes and how far these are, worked out by another program.
var given = []struct {
	size int
	f    api.Frame
	side api.Side
	y    [8]api.Pulses
	far  int
}{
	{12, api.Frame{}, api.Side{}, [8]api.Pulses{{2}, {2}, {2}, {2}, {1}, {1}, {1}, {1}}, 12},
	{24, api.Frame{}, api.Side{}, [8]api.Pulses{{12}, {12}, {12}, {12}, {12}, {12}, {12}, {12}}, 96},
	{12, api.Frame{1000, -1000, 1000, -1000, 500, -500, 500, -500, 250, -250, 250, -250, 125, -125, 125, -125, 62, -62, 62, -62, 31, -31, 31, -31, 15, -15, 15, -15, 7, -7, 7, -7}, api.Side{8, 7, 6, 5, 4, 3, 2, 1}, [8]api.Pulses{{3, -2}, {3, -1}, {3}, {2}, {1}, {}, {}, {}}, 5896},
	{17, api.Frame{1000, -1000, 1000, -1000, 500, -500, 500, -500, 250, -250, 250, -250, 125, -125, 125, -125, 62, -62, 62, -62, 31, -31, 31, -31, 15, -15, 15, -15, 7, -7, 7, -7}, api.Side{8, 7, 6, 5, 4, 3, 2, 1}, [8]api.Pulses{{3, -3, 3, -2}, {3, -3, 3}, {3, -3, 1}, {3, -3, 1}, {3, -2}, {3, -1}, {3}, {2}}, 3192},
	{24, api.Frame{1000, -1000, 1000, -1000, 500, -500, 500, -500, 250, -250, 250, -250, 125, -125, 125, -125, 62, -62, 62, -62, 31, -31, 31, -31, 15, -15, 15, -15, 7, -7, 7, -7}, api.Side{8, 7, 6, 5, 4, 3, 2, 1}, [8]api.Pulses{{3, -3, 3, -3}, {3, -3, 3, -3}, {3, -3, 3, -3}, {3, -3, 3, -3}, {3, -3, 3, -3}, {3, -3, 3, -3}, {3, -3, 3, -3}, {3, -3, 3, -3}}, 1840},
	{12, api.Frame{1048576, 1048576, 1048576, 1048576, 1048576, 1048576, 1048576, 1048576, 1048576, 1048576, 1048576, 1048576, 1048576, 1048576, 1048576, 1048576, 1048576, 1048576, 1048576, 1048576, 1048576, 1048576, 1048576, 1048576, 1048576, 1048576, 1048576, 1048576, 1048576, 1048576, 1048576, 1048576}, api.Side{15, 15, 15, 15, 15, 15, 15, 15}, [8]api.Pulses{{2}, {2}, {2}, {2}, {1}, {1}, {1}, {1}}, 33161216},
	{21, api.Frame{-1048576, -1048576, -1048576, -1048576, -1048576, -1048576, -1048576, -1048576, -1048576, -1048576, -1048576, -1048576, -1048576, -1048576, -1048576, -1048576, -1048576, -1048576, -1048576, -1048576, -1048576, -1048576, -1048576, -1048576, -1048576, -1048576, -1048576, -1048576, -1048576, -1048576, -1048576, -1048576}, api.Side{15, 15, 15, 15, 15, 15, 15, 15}, [8]api.Pulses{{-12}, {-12}, {-12}, {-12}, {-12}, {-12}, {-12}, {-12}}, 30408704},
	{24, api.Frame{-1048576, 1048576, -1048576, 1048576, -1048576, 1048576, -1048576, 1048576, -1048576, 1048576, -1048576, 1048576, -1048576, 1048576, -1048576, 1048576, -1048576, 1048576, -1048576, 1048576, -1048576, 1048576, -1048576, 1048576, -1048576, 1048576, -1048576, 1048576, -1048576, 1048576, -1048576, 1048576}, api.Side{15, 15, 15, 15, 15, 15, 15, 15}, [8]api.Pulses{{-12}, {-12}, {-12}, {-12}, {-12}, {-12}, {-12}, {-12}}, 30408704},
	{16, api.Frame{-1048577, 1048577, 1048577, -1048577, 1048577, 1048577, -1048577, 1048577, 1048577, -1048577, 1048577, 1048577, -1048577, 1048577, 1048577, -1048577, 1048577, 1048577, -1048577, 1048577, 1048577, -1048577, 1048577, 1048577, -1048577, 1048577, 1048577, -1048577, 1048577, 1048577, -1048577, 1048577}, api.Side{15, 15, 15, 15, 15, 15, 15, 15}, [8]api.Pulses{{-4}, {4}, {4}, {-4}, {4}, {4}, {-4}, {4}}, 32505856},
	{20, api.Frame{math.MinInt, math.MaxInt, math.MinInt, math.MaxInt, math.MinInt, math.MaxInt, math.MinInt, math.MaxInt, math.MinInt, math.MaxInt, math.MinInt, math.MaxInt, math.MinInt, math.MaxInt, math.MinInt, math.MaxInt, math.MinInt, math.MaxInt, math.MinInt, math.MaxInt, math.MinInt, math.MaxInt, math.MinInt, math.MaxInt, math.MinInt, math.MaxInt, math.MinInt, math.MaxInt, math.MinInt, math.MaxInt, math.MinInt, math.MaxInt}, api.Side{15, 15, 15, 15, 15, 15, 15, 15}, [8]api.Pulses{{-11}, {-11}, {-11}, {-11}, {-11}, {-11}, {-11}, {-11}}, 30670848},
	{12, api.Frame{0, 0, 0, 0, 0, 0, 0, 0, 0, 0, 0, 0, 0, -700}, api.Side{0, 0, 0, 7}, [8]api.Pulses{{1}, {1}, {1}, {3, -6}, {1}, {1}, {1}, {1}}, 459},
	{24, api.Frame{0, 0, 0, 0, 0, 0, 0, 0, 0, 0, 0, 0, 0, -700}, api.Side{0, 0, 0, 7}, [8]api.Pulses{{12}, {12}, {12}, {6, -6}, {12}, {12}, {12}, {12}}, 920},
	{13, api.Frame{0, 0, 0, 0, 0, 0, 0, 0, 0, 0, 0, 0, 0, 0, 0, 0, 0, 0, 0, 0, 0, 0, 0, 0, 0, 0, 0, 0, 0, 0, 0, 1}, api.Side{}, [8]api.Pulses{{2}, {2}, {2}, {2}, {2}, {2}, {2}, {1, 0, 0, 1}}, 15},
	{15, api.Frame{-7}, api.Side{1}, [8]api.Pulses{{-5}, {3}, {3}, {3}, {3}, {3}, {3}, {2}}, 23},
	{12, api.Frame{178955, 159794, -120725, -31888, 76687, 66651, -36695, -7084, 25096, -13900, -23232, 1969, 828, -10043, -9117, -4201, -1022, 1522, 1631, 556, 249, -708, -744, -264, 499, 614, -94, -54, 47, -296, 126, 70}, api.Side{15, 14, 13, 11, 9, 7, 7, 6}, [8]api.Pulses{{5, 2}, {4, 1}, {3, -1}, {0, -2}, {}, {}, {}, {}}, 427201},
	{12, api.Frame{0, 0, 0, 0, 0, 26538, -13227, 0, 0, 0, 0, 0, 0, 0, 0, -37566}, api.Side{0, 13, 0, 13}, [8]api.Pulses{{1}, {6, 4, -2}, {1}, {7, 0, 0, -5}, {}, {}, {}, {}}, 119279},
	{13, api.Frame{-1, 0, 0, 0, -89, -136, -233, 17, -16, -7, -100, -122, 106422, 61652, -237246, 180056, 413953, -203396, 49917, 383571, -11, 19, -17, -16, 187222, 99381, -27239, -140144, -415587, -118707, 390986, -162896}, api.Side{0, 6, 5, 15, 15, 2, 15, 15}, [8]api.Pulses{{}, {}, {}, {3, 1, -3}, {7}, {}, {5, 2}, {-7}}, 2261655},
	{13, api.Frame{-64, -768, 0, 640, 448, -640, -64, 512, 0, -576, -64, 256, -640, 640, -768, -192, -512, -128, -640, -256, -384, 64, 64, -192, -192, -256, -512, 128, -448, 0, -192, 384}, api.Side{7, 7, 7, 7, 7, 6, 7, 7}, [8]api.Pulses{{0, -3}, {2}, {0, -2}, {-2}, {-2}, {-1}, {-1, -1}, {-2}}, 8640},
	{14, api.Frame{-9, -3, -6, -1, 7, -3, -8, 9, 11, -9, -12, -4, -11, 0, -1, 11, -3, 0, 2, -9, -10, 6, 3, -6, -12, 10, 11, 4, -10, 12, 5, 7}, api.Side{1, 1, 1, 1, 1, 1, 1, 1}, [8]api.Pulses{{-3}, {3}, {3}, {-3}, {-1, 0, 1}, {-2}, {-2}, {-2}}, 175},
	{14, api.Frame{761819, -1966968, -595923, 231562, 369199, -1259245, -2076715, -1751231, -324523, -360984, 1309375, -1441090, 920335, 276473, 1617189, -1678722, -942065, 1056559, 1235768, 1208429, 36620, -2066565, 1752225, -1327881, 2030083, 580039, -166235, -410717, 360147, 1682623, 726892, 1091979}, api.Side{15, 15, 15, 15, 15, 15, 15, 15}, [8]api.Pulses{{3}, {3}, {-3}, {3}, {-2}, {1, -1}, {2}, {2}}, 24233965},
	{15, api.Frame{0, 0, 0, -40856, 0, 8841, 0, 1323}, api.Side{13, 11}, [8]api.Pulses{{7, 0, 0, -5}, {6, 5, 0, 1}, {2}, {2}, {2}, {2}, {2}, {2}}, 71872},
	{15, api.Frame{50102, -74401, 84080, -62859, -22427, 90936, -49125, -31686, 39306, -1183, -2069, 9757, -7695, -11881, -4973, 838, 2374, 1105, -1100, 79, 54, 1266, 633, 1314, -186, 255, 466, 274, 342, -87, 122, -153}, api.Side{14, 14, 13, 11, 9, 8, 7, 6}, [8]api.Pulses{{3, -4, 2}, {-1, 5, -2, -1}, {5, 0, -1, 1}, {-3, -2}, {3}, {0, 2}, {-1}, {}}, 204010},
	{16, api.Frame{256, 704, -448, -448, -320, 640, -640, -704, 640, -512, -320, 192, 448, -128, -256, -576, -768, -320, 192, 64, -256, 64, -256, -448, -512, -448, 384, -640, -704, 512, 128, 448}, api.Side{7, 7, 7, 7, 7, 7, 7, 7}, [8]api.Pulses{{2, 2}, {-2, 2}, {4}, {3, -1}, {-4}, {-2, 0, -2}, {-4}, {-4}}, 9280},
	{16, api.Frame{61250, -25356, -18811, -15746, 10, -34, -16, 50, 3568, -2982, 926, -2220, -12, 14, -11, 9, 7318, -5085, 3736, -171, 15, 5, -13, -31, 523, -422, 143, -497, -48143, -18732, -55901, -35025}, api.Side{14, 4, 10, 2, 11, 3, 7, 14}, [8]api.Pulses{{7, -2, -2, -1}, {0, -2}, {3, -3, 1, -2}, {}, {4, -3, 2}, {1}, {4, -1}, {-3, -2, -4, -2}}, 106827},
	{17, api.Frame{251773, 1406366, -1345208, -486383, 1609993, 1631198, 1320538, -1732861, -625858, -641742, -1295299, 2067180, 405279, -769651, -58154, 211883, -142192, -1113292, -1308409, 1641001, 1524187, 720390, -103265, -693145, -1626998, 1688774, -1355466, -1889876, 300198, -1838682, 42304, 907491}, api.Side{15, 15, 15, 15, 15, 15, 15, 15}, [8]api.Pulses{{5}, {5}, {-5}, {5}, {-4, -1}, {5}, {-5}, {5}}, 22874780},
	{17, api.Frame{-4, -3, 5, 0, 8, 9, -10, 9, -1, -12, -11, 6, 11, 12, -7, -7, -5, 8, -10, 11, 2, 1, -11, -12, 7, 12, -6, 0, 5, 5, 2, -10}, api.Side{0, 1, 1, 1, 1, 1, 1, 1}, [8]api.Pulses{{-4, -1}, {4, 1}, {0, -5}, {5}, {-2, 3}, {1, 0, -4}, {3, 2}, {2, 2, 1}}, 147},
	{18, api.Frame{-49787, 43445, 165647, 73267, 38011, -22402, -6942, -36269, 8368, -12617, -15246, 15752, 8313, -8598, 11862, -5686, -483, -3186, 2306, -1463, -1647, -639, -363, -1561, -527, -675, -322, 46, 128, 260, 116, -2}, api.Side{15, 13, 12, 11, 10, 9, 7, 6}, [8]api.Pulses{{-2, 2, 5, 3}, {4, -2, -1, -4}, {2, -3, -3, 1}, {4, -4, 1}, {-1, -3, 2, -1}, {-3, -1, 0, -3}, {-4}, {2}}, 115256},
	{18, api.Frame{0, 0, 0, -20875, 0, 0, 0, 0, 0, 0, 0, 0, 0, 0, 0, 0, 0, 0, 0, 0, 0, 39984, 0, 0, 0, 0, 0, 0, 0, 0, -6076}, api.Side{12, 0, 0, 0, 0, 13, 0, 10}, [8]api.Pulses{{6, 0, 0, -6}, {5}, {4}, {4}, {4}, {7, 5}, {4}, {6, 0, -6}}, 92830},
	{19, api.Frame{-14, -6, 12, -16, 2, -10, -6, 3, -3067, -10839, -8585, -6244, 1, -1, 1, 0, 235, -465, 21, -458, -16286, 4498, 2315, 14422, 3978, -12995, -14734, -14192, -4, 4, 0, 2}, api.Side{2, 1, 11, 0, 7, 12, 12}, [8]api.Pulses{{-3, -1, 3}, {1, -5, -1}, {-1, -5, -4, -2}, {3, -1, 1}, {2, -4, 1, -4}, {-5, 2, 1, 4}, {1, -3, -4, -4}, {-4}}, 20721},
	{19, api.Frame{448, 64, 704, 0, 768, -256, -768, -640, -320, -448, 64, 512, -704, -640, -576, -576, -448, -320, 512, -704, -704, -192, 576, 448, 0, -768, 64, -128, -512, -192, -256, -128}, api.Side{7, 7, 7, 7, 7, 7, 7, 7}, [8]api.Pulses{{4, 0, 5}, {6, -2, -1}, {-2, -3, 0, 4}, {-5, -4}, {-3, -2, 4}, {-5, -1, 3}, {1, -6, 1, -1}, {-4, -2, -2, -1}}, 4864},
	{20, api.Frame{-1, 6, 11, 11, 7, 2, 11, -2, 2, 3, -12, -3, 7, -9, -1, 11, -6, -3, 12, -8, 7, 6, 10, 6, 11, 4, -7, -11, -5, -4, -7, 4}, api.Side{1, 1, 1, 1, 1, 1, 1, 1}, [8]api.Pulses{{0, 3, 5, 3}, {4, 1, 5, -1}, {1, 2, -6, -2}, {3, -4, 0, 4}, {-3, -1, 6, -1}, {3, 3, 5}, {5, 2, -3, -1}, {-3, -2, -4, 2}}, 44},
	{20, api.Frame{-1812275, -2006061, -1198331, -521732, -1204869, 1895509, 1745908, 192899, -193190, -1605019, 1555075, -4327, 288429, 685397, 505812, -37769, 827366, 2025053, 1485321, -1551997, -380223, -385237, -275075, 2080028, 1828736, 633856, -843297, 1730128, 1260656, -1556450, -1885843, -888706}, api.Side{15, 15, 15, 15, 15, 15, 15, 15}, [8]api.Pulses{{-11}, {-11}, {-5, -6}, {8, 3}, {11}, {-11}, {11}, {11}}, 21605523},
	{21, api.Frame{0, 0, 0, 14280, 0, 0, 0, 0, 0, 0, 0, 0, 0, 0, 0, 0, 46956, 0, 0, 0, 0, 0, 0, 0, 0, 0, 0, 0, 0, -7152}, api.Side{12, 0, 0, 0, 13, 0, 0, 11}, [8]api.Pulses{{8, 0, 0, 4}, {12}, {12}, {12}, {12}, {12}, {12}, {8, -4}}, 103704},
	{21, api.Frame{-178536, -81862, -137853, 73943, -95633, -64731, -40485, -20640, 857, 9318, -23082, 10969, -1259, -5840, -4075, 4256, 5601, 2900, -848, -559, -1343, 1333, -630, 146, -683, -263, 555, 163, 241, 370, -190, 73}, api.Side{15, 14, 12, 10, 10, 8, 7, 6}, [8]api.Pulses{{-5, -2, -4, 1}, {-5, -4, -2, -1}, {0, 3, -6, 3}, {-1, -5, -3, 3}, {7, 3, -1, -1}, {-5, 5, -2}, {-5, -2, 4, 1}, {3, 5, -3, 1}}, 118249},
	{22, api.Frame{-704, 320, 320, 64, -576, 448, -256, -64, 0, -704, -64, -192, -320, 0, 192, -704, 64, 256, 0, 384, -384, 384, 512, -640, -576, -320, -512, -192, -512, -320, -768, 320}, api.Side{7, 7, 7, 7, 6, 7, 7, 7}, [8]api.Pulses{{-6, 3, 3}, {-5, 4, -2, -1}, {3, -6, -1, -2}, {-4, 0, 2, -6}, {2, 4, 0, 6}, {-3, 3, 4, -2}, {-5, -2, -4, -1}, {-4, -2, -6}}, 2368},
	{22, api.Frame{-1, -1, 0, 0, 4480, -19357, 10199, -23042, 104, -15, 18, -121, 33, -34, -11, -41, 10008, 15218, 10887, -2664, -11, -8, 9, 14, -201586, 215274, -466, -164882, 1176, -2971, -2729, 2006}, api.Side{0, 12, 5, 3, 12, 2, 15, 9}, [8]api.Pulses{{-11, -1}, {1, -4, 2, -5}, {6, -1, 1, -4}, {4, -4, -1, -3}, {4, 4, 3, -1}, {-3, -2, 3, 4}, {-6, 6}, {2, -5, -5}}, 210196},
	{23, api.Frame{-1013228, -268785, -1760829, -1769025, -31334, -1000015, -1839776, -1188805, -1031653, 73523, 1894496, 1520865, 46736, -684854, 1813907, -538968, -950155, -1723730, -476108, -1156582, 874695, 1826314, 1840041, 648385, -1678783, 584893, 667142, 1122218, -1218994, -1937310, 1603426, -585121}, api.Side{15, 15, 15, 15, 15, 15, 15, 15}, [8]api.Pulses{{-12}, {0, -12}, {-12}, {1, -11}, {-12}, {12}, {-12}, {-12}}, 23107083},
	{23, api.Frame{-10, 8, 4, 12, 2, 5, -8, -6, -2, 7, 11, 8, 9, 1, 7, -6, 11, 11, 9, -7, -1, -11, 9, 5, 6, -8, 8, -3, 10, -1, 10, 7}, api.Side{1, 1, 1, 1, 1, 1, 1, 1}, [8]api.Pulses{{-5, 4, 2, 1}, {2, 3, -4, -3}, {-1, 3, 5, 3}, {5, 1, 3, -3}, {5, 5, 2}, {-1, -5, 4, 2}, {3, -4, 4, -1}, {5, 0, 5, 2}}, 43},
	{24, api.Frame{-62331, -164516, 136569, 46024, -36824, 2379, 15377, -43077, 28734, -24313, -23514, 18285, 10783, 10093, 3130, 3519, 4229, 1985, 1299, -164, 1301, 1185, -612, 48, -620, 681, 243, 91, -67, 193, -90, 149}, api.Side{15, 13, 13, 11, 10, 8, 7, 6}, [8]api.Pulses{{-2, -5, 4, 1}, {-5, 0, 2, -5}, {4, -3, -3, 2}, {5, 5, 1, 1}, {7, 2, 2, -1}, {5, 5, -2}, {-5, 5, 2}, {-3, 4, -2, 3}}, 48085},
	{24, api.Frame{0, 0, 0, 0, 0, 0, 5765, 0, 0, 0, 0, 0, 0, 0, 0, 0, 0, 0, 0, 0, 0, 0, 0, 0, 0, -28032}, api.Side{0, 10, 0, 0, 0, 0, 13}, [8]api.Pulses{{12}, {6, 0, 6}, {12}, {12}, {12}, {12}, {8, -4}, {12}}, 76867},
}

// wrongSizes are sizes that no packet has; some of them are one by their rest.
var wrongSizes = []int{
	11, 25, 0, -1, 1, 8, 10, 26, -11, -12, -24, -25, 100, 256 + 12, 1 << 31, -1 << 31, 1<<32 + 12, -1<<32 + 24, 1<<61 + 12, 1<<61 + 24,
	math.MaxInt - 1, math.MaxInt, math.MinInt, math.MinInt + 1, math.MinInt + 12, math.MinInt + 24,
}

// wrongSteps are numbers that are no step; some of them are one by their rest.
var wrongSteps = []int{-1, 16, -2, 17, -15, -16, 31, 32, 63, 64, -64, 255, 256, 1 << 31, 1 << 32, 1<<32 + 5, math.MaxInt - 1, math.MaxInt, math.MinInt, math.MinInt + 1}

// tooManyPulses are numbers that are too great for pulses; some of them, times a gain, go round to what isn't.
var tooManyPulses = []int{13, -13, 14, -14, 24, -24, 100, -100, 1 << 20, 1 << 32, -1 << 32, 1<<32 + 1, 1 << 61, 1<<62 + 3, math.MaxInt - 1, math.MaxInt, math.MinInt, math.MinInt + 1}

// brought are numbers, and where they are brought to.
var brought = [][2]int{
	{mostCoef, mostCoef}, {-mostCoef, -mostCoef}, {mostCoef - 1, mostCoef - 1}, {-mostCoef + 1, -mostCoef + 1}, {mostCoef + 1, mostCoef}, {-mostCoef - 1, -mostCoef},
	{2 * mostCoef, mostCoef}, {1 << 32, mostCoef}, {-1 << 32, -mostCoef}, {1<<32 + 5, mostCoef}, {math.MaxInt, mostCoef}, {-math.MaxInt, -mostCoef}, {math.MinInt, -mostCoef},
}

// numbers answers a source of words that is the same in each run.
func numbers(seed uint64) func() uint64 {
	return func() uint64 {
		seed += 0x9e3779b97f4a7c15
		z := (seed ^ seed>>30) * 0xbf58476d1ce4e5b9
		z = (z ^ z>>27) * 0x94d049bb133111eb
		return z ^ z>>31
	}
}

// between answers a number from -bound to bound.
func between(next func() uint64, bound int) int { return int(next()%uint64(2*bound+1)) - bound }

// walk hands each vector of k pulses to a function.
func walk(k int, each func(y api.Pulses)) {
	var y api.Pulses
	var from func(at, left int)
	from = func(at, left int) {
		if at == 3 { // the last one takes what is left
			y[3] = left
			each(y)
			if left > 0 {
				y[3] = -left
				each(y)
			}
			return
		}
		for x := -left; x <= left; x++ {
			y[at] = x
			from(at+1, left-max(x, -x))
		}
	}
	from(0, k)
}

// hand makes shapes by the chapters' words.
type hand struct {
	vectors [most + 1][]api.Pulses // those of so many pulses
	bits    [most + 1]int          // how many bits their numbers have
}

// byHand answers a hand.
func byHand() *hand {
	h := &hand{}
	for k := range h.vectors {
		walk(k, func(y api.Pulses) { h.vectors[k] = append(h.vectors[k], y) })
		for n := 1; n < len(h.vectors[k]); n *= 2 {
			h.bits[k]++
		}
	}
	return h
}

// pulses answers how many pulses each band has, by looking at all bands each time.
func (h *hand) pulses(s api.Side, size int) [8]int {
	var k [8]int
	left := 8*size - 64
	for {
		best := -1
		for b := range k {
			if k[b] < most && h.bits[k[b]+1]-h.bits[k[b]] <= left && (best < 0 || s[b]-k[b] > s[best]-k[best]) {
				best = b
			}
		}
		if best < 0 {
			return k
		}
		left -= h.bits[k[best]+1] - h.bits[k[best]]
		k[best]++
	}
}

// shape answers a frame's shape.
func (h *hand) shape(f api.Frame, size int) api.Shape {
	var s api.Shape
	f = clamped(f)
	for b := range s.Side {
		s.Side[b] = stepOf(bandOf(f, b))
	}
	for b, k := range h.pulses(s.Side, size) {
		s.Y[b] = found(bandOf(f, b), gainOf(s.Side[b]), k)
	}
	return s
}

// clamped answers a frame brought into its range.
func clamped(f api.Frame) api.Frame {
	for i, x := range f {
		if x > mostCoef {
			f[i] = mostCoef
		}
		if x < -mostCoef {
			f[i] = -mostCoef
		}
	}
	return f
}

// bandOf answers a band's coefficients.
func bandOf(f api.Frame, b int) [4]int { return [4]int{f[4*b], f[4*b+1], f[4*b+2], f[4*b+3]} }

// gainOf answers 2^step by doubling.
func gainOf(step int) int {
	gain := 1
	for range step {
		gain *= 2
	}
	return gain
}

// stepOf answers the step of coefficients, from the greatest one down.
func stepOf(c [4]int) int {
	great := 0
	for _, x := range c {
		great = max(great, x, -x)
	}
	step := 15
	for step > 0 && great <= 6*gainOf(step-1) {
		step--
	}
	return step
}

// far answers the distance of pulses from coefficients.
func far(c [4]int, y api.Pulses, gain int) int {
	sum := 0
	for i, x := range c {
		d := x - y[i]*gain
		sum += max(d, -d)
	}
	return sum
}

// found finds pulses one by one, by looking at all four coefficients each time.
func found(c [4]int, gain, k int) api.Pulses {
	var y api.Pulses
	for range k {
		var best api.Pulses
		for at := range c {
			z := y
			if c[at] >= 0 {
				z[at]++
			} else {
				z[at]--
			}
			if at == 0 || far(c, z, gain) < far(c, best, gain) {
				best = z
			}
		}
		y = best
	}
	return y
}

// stands tells whether a band stands for anything.
func stands(s api.Shape, b int) bool {
	for _, x := range s.Y[b] {
		if x < -12 || x > 12 {
			return false
		}
	}
	return s.Side[b] >= 0 && s.Side[b] <= 15
}

// coefs answers a shape's coefficients, number by number.
func coefs(s api.Shape) api.Frame {
	var f api.Frame
	for i := range f {
		if b := i / 4; stands(s, b) {
			f[i] = s.Y[b][i%4] * gainOf(s.Side[b])
		}
	}
	return f
}

// errorOf answers the sum of the differences of a frame, brought into its range, and a shape's coefficients.
func errorOf(f api.Frame, s api.Shape) int {
	sum, c := 0, coefs(s)
	for i, x := range clamped(f) {
		if x > c[i] {
			sum += x - c[i]
		} else {
			sum += c[i] - x
		}
	}
	return sum
}

// alone answers a frame of 0s but for one.
func alone(at, x int) api.Frame {
	var f api.Frame
	f[at] = x
	return f
}

// with answers a frame with another number at a place.
func with(f api.Frame, at, x int) api.Frame {
	f[at] = x
	return f
}

// anyBand answers coefficients of a size by chance: often such that falls are alike, or nothing, or far beyond what pulses reach.
func anyBand(next func() uint64) [4]int {
	var c [4]int
	gain := 1 << (next() % 16)
	kind := next() % 6
	for i := range c {
		switch kind {
		case 0: // anything that a step is for
			c[i] = between(next, 6*gain)
		case 1: // halves of gains
			c[i] = between(next, 12) * gain / 2
		case 2: // gains
			c[i] = between(next, 6) * gain
		case 3: // near nothing
			c[i] = between(next, 1)
		case 4: // as great as may be
			c[i] = between(next, mostCoef)
		default: // and greater
			c[i] = int(next())
		}
	}
	return c
}

// anyFrame answers a frame whose bands are of all kinds.
func anyFrame(next func() uint64) api.Frame {
	var f api.Frame
	for b := range 8 {
		c := anyBand(next)
		copy(f[4*b:], c[:])
	}
	return f
}

// anyShape answers a shape of steps and numbers that may be, but need not be right for a size.
func anyShape(next func() uint64) api.Shape {
	var s api.Shape
	for b := range s.Y {
		s.Side[b] = int(next() % 16)
		for i := range s.Y[b] {
			s.Y[b][i] = between(next, 12)
		}
	}
	return s
}

// spoilt answers a shape some of whose bands stand for nothing.
func spoilt(next func() uint64, s api.Shape) api.Shape {
	for b := range s.Y {
		switch next() % 4 {
		case 0:
			s.Side[b] = wrongSteps[next()%uint64(len(wrongSteps))]
		case 1:
			s.Y[b][next()%4] = tooManyPulses[next()%uint64(len(tooManyPulses))]
		}
	}
	return s
}

// sizes hands each size that a packet may have to a test of its own.
func sizes(t *testing.T, each func(t *testing.T, size int)) {
	for size := least; size <= greatest; size++ {
		t.Run(strconv.Itoa(size), func(t *testing.T) { each(t, size) })
	}
}

// mustShape answers the shape of a frame.
func mustShape(t *testing.T, f api.Frame, size int) api.Shape {
	t.Helper()
	s, e := Shape(f, size)
	if e != api.OK {
		t.Fatalf("Shape(%v, %d) = %v, %d", f, size, s, e)
	}
	return s
}

// asByHand holds a frame's shape, its coefficients and its error against those by the chapters' words.
func (h *hand) asByHand(t *testing.T, f api.Frame, size int) {
	t.Helper()
	s := mustShape(t, f, size)
	if want := h.shape(f, size); s != want {
		t.Fatalf("Shape(%v, %d) = %v, want %v", f, size, s, want)
	}
	if c, want := Coefs(s), coefs(s); c != want {
		t.Fatalf("Coefs(%v) = %v, want %v", s, c, want)
	}
	if n, want := Error(f, s), errorOf(f, s); n != want {
		t.Fatalf("Error(%v, %v) = %d, want %d", f, s, n, want)
	}
}

// 20.1 and 20.2: shapes that another program made, and how far they are.
func TestGiven(t *testing.T) {
	for _, x := range given {
		s := mustShape(t, x.f, x.size)
		if want := (api.Shape{Side: x.side, Y: x.y}); s != want {
			t.Errorf("Shape(%v, %d) = %v, want %v", x.f, x.size, s, want)
		}
		if n := Error(x.f, s); n != x.far {
			t.Errorf("Error(%v, %v) = %d, want %d", x.f, s, n, x.far)
		}
	}
}

// 20.1: the chapter's example: one pulse in each band costs 24 bits, and one more in each of the first four the last 8.
func TestExample(t *testing.T) {
	s := mustShape(t, api.Frame{}, 12)
	if want := (api.Shape{Y: [8]api.Pulses{{2}, {2}, {2}, {2}, {1}, {1}, {1}, {1}}}); s != want {
		t.Errorf("of the example %v, want %v", s, want)
	}
	if c, want := Coefs(s), (api.Frame{0: 2, 4: 2, 8: 2, 12: 2, 16: 1, 20: 1, 24: 1, 28: 1}); c != want {
		t.Errorf("of the example the coefficients %v, want %v", c, want)
	}
	if n := Error(api.Frame{}, s); n != 12 || !Silent(s) {
		t.Errorf("of the example the error %d, silent %t", n, Silent(s))
	}
}

// 20.1: of another size there is no shape, whatever the frame is.
func TestWrongSizes(t *testing.T) {
	next := numbers(1)
	for _, size := range wrongSizes {
		for _, f := range []api.Frame{{}, alone(3, 500), alone(0, math.MaxInt), alone(31, math.MinInt), anyFrame(next)} {
			if s, e := Shape(f, size); s != (api.Shape{}) || e != api.ErrArg {
				t.Errorf("Shape(%v, %d) = %v, %d", f, size, s, e)
			}
		}
	}
}

// 20.1: of each size there is one of 0s, of steps 0, whose pulses are all of the first coefficients.
func TestZeros(t *testing.T) {
	h := byHand()
	sizes(t, func(t *testing.T, size int) {
		h.asByHand(t, api.Frame{}, size)
		s, sum := mustShape(t, api.Frame{}, size), 0
		for b, k := range h.pulses(api.Side{}, size) {
			if s.Side[b] != 0 || s.Y[b] != (api.Pulses{k}) {
				t.Errorf("the band %d: %d, %v, want %d pulses", b, s.Side[b], s.Y[b], k)
			}
			sum += k
		}
		if n := Error(api.Frame{}, s); n != sum || !Silent(s) {
			t.Errorf("the error %d, want %d; silent %t", n, sum, Silent(s))
		}
	})
}

// 20.1, 20.2: one coefficient alone, at each place, of each size.
func TestAlone(t *testing.T) {
	h := byHand()
	sizes(t, func(t *testing.T, size int) {
		for at := range 32 {
			for _, x := range []int{1, -1, 6, -6, 7, -7, 12, -13, 100, -1000, 196608, -196609, mostCoef, -mostCoef, mostCoef + 1, -mostCoef - 1, math.MaxInt, math.MinInt} {
				h.asByHand(t, alone(at, x), size)
			}
		}
	})
}

// 20.1: a coefficient of 6 times 2^s is of the step s, and one just beyond it of the next one, if there is one; other bands' steps are their own.
func TestStepEdges(t *testing.T) {
	h, next := byHand(), numbers(2)
	for step := range 16 {
		bound := 6 * gainOf(step)
		for at := range 32 {
			beside := anyFrame(next)
			for _, x := range [][2]int{{bound, step}, {-bound, step}, {bound - 1, step}, {-bound + 1, step}, {bound + 1, min(step+1, 15)}, {-bound - 1, min(step+1, 15)}} {
				b, size := at/4, least+(at+step)%13
				want := mustShape(t, beside, size).Side
				f := beside
				copy(f[4*b:4*b+4], []int{0, 0, 0, 0})
				f[at], want[b] = x[0], x[1]
				if s := mustShape(t, f, size); s.Side != want {
					t.Fatalf("of %d at %d the steps %v, want %v", x[0], at, s.Side, want)
				}
				h.asByHand(t, f, size)
				h.asByHand(t, alone(at, x[0]), size)
			}
		}
	}
}

// 20.1, 20.2: a frame is brought into its range: at each place, its shape and its error are those of what it is brought to.
func TestBrought(t *testing.T) {
	h, next := byHand(), numbers(3)
	for at := range 32 {
		for i, x := range brought {
			size := least + (at+i)%13
			for _, f := range []api.Frame{{}, clamped(anyFrame(next))} {
				f, there := with(f, at, x[0]), with(f, at, x[1])
				h.asByHand(t, f, size)
				s := mustShape(t, f, size)
				if want := mustShape(t, there, size); s != want {
					t.Fatalf("Shape(%v, %d) = %v, want %v", f, size, s, want)
				}
				for _, other := range []api.Shape{s, {}, anyShape(next)} {
					if n, want := Error(f, other), Error(there, other); n != want {
						t.Fatalf("Error(%v, %v) = %d, want %d", f, other, n, want)
					}
				}
			}
		}
	}
}

// 20.1, 20.2: all of a frame at, and beyond, the ends.
func TestAllBrought(t *testing.T) {
	h := byHand()
	sizes(t, func(t *testing.T, size int) {
		for i, x := range brought {
			var same, both api.Frame
			for at := range same {
				same[at], both[at] = x[0], brought[(i+at)%len(brought)][0]
			}
			h.asByHand(t, same, size)
			h.asByHand(t, both, size)
		}
	})
}

// 20.1, 20.2: frames of all kinds, of each size, by the chapters' words.
func TestByHand(t *testing.T) {
	h := byHand()
	sizes(t, func(t *testing.T, size int) {
		next := numbers(uint64(size))
		for range 400 {
			h.asByHand(t, anyFrame(next), size)
		}
	})
}

// 20.1: what a shape's coefficients are, each at its own place: those that one pulse makes, at each step.
func TestPlaces(t *testing.T) {
	for at := range 32 {
		for step := range 16 {
			for n := -12; n <= 12; n++ {
				var s api.Shape
				s.Side[at/4] = step
				s.Y[at/4][at%4] = n
				if c := Coefs(s); c != alone(at, n*gainOf(step)) {
					t.Fatalf("Coefs(%v) = %v", s, c)
				}
			}
		}
	}
}

// 20.1: coefficients of any shapes whose steps and numbers may be: they need not be right for a size.
func TestCoefs(t *testing.T) {
	next := numbers(4)
	for range 5000 {
		s := anyShape(next)
		if c, want := Coefs(s), coefs(s); c != want {
			t.Fatalf("Coefs(%v) = %v, want %v", s, c, want)
		}
	}
	full := api.Shape{Side: api.Side{15, 15, 15, 15, 15, 15, 15, 15}}
	var want api.Frame
	for i := range want {
		n := 12 - 24*(i%2)
		full.Y[i/4][i%4], want[i] = n, n*32768
	}
	if c := Coefs(full); c != want {
		t.Errorf("Coefs(%v) = %v, want %v", full, c, want)
	}
}

// empty answers a frame without the coefficients of a band.
func empty(f api.Frame, b int) api.Frame {
	for i := range 4 {
		f[4*b+i] = 0
	}
	return f
}

// 20.1: a band whose step isn't 0 to 15 stands for 0s, and no other band for anything else than before.
func TestCoefsOfNoStep(t *testing.T) {
	next := numbers(5)
	for b := range 8 {
		for range 10 {
			s := anyShape(next)
			whole := Coefs(s)
			for step := range 16 {
				s.Side[b] = step
				if c, want := Coefs(s), coefs(s); c != want || empty(c, b) != empty(whole, b) {
					t.Fatalf("Coefs(%v) = %v, want %v", s, c, want)
				}
			}
			for _, step := range wrongSteps {
				s.Side[b] = step
				if c := Coefs(s); c != empty(whole, b) {
					t.Fatalf("Coefs(%v) = %v, want %v", s, c, empty(whole, b))
				}
			}
		}
	}
}

// 20.1: a band with a number that isn't -12 to 12, at each place, stands for 0s, and no other band for anything else than before; one of 12 or -12 stands for its own.
func TestCoefsOfGreatNumbers(t *testing.T) {
	next := numbers(6)
	for at := range 32 {
		b := at / 4
		for range 5 {
			s := anyShape(next)
			whole := Coefs(s)
			for _, n := range tooManyPulses {
				s.Y[b][at%4] = n
				if c := Coefs(s); c != empty(whole, b) {
					t.Fatalf("Coefs(%v) = %v, want %v", s, c, empty(whole, b))
				}
			}
			for _, n := range []int{12, -12} {
				s.Y[b][at%4] = n
				if c := Coefs(s); c != with(whole, at, n*gainOf(s.Side[b])) {
					t.Fatalf("Coefs(%v) = %v", s, c)
				}
			}
		}
	}
}

// 20.1: of what may not be in several bands, or all, each by itself.
func TestCoefsSpoilt(t *testing.T) {
	next := numbers(7)
	for range 3000 {
		s := spoilt(next, anyShape(next))
		if c, want := Coefs(s), coefs(s); c != want {
			t.Fatalf("Coefs(%v) = %v, want %v", s, c, want)
		}
	}
	for _, n := range tooManyPulses {
		for _, step := range wrongSteps {
			var s api.Shape
			for b := range s.Y {
				s.Side[b], s.Y[b] = step, api.Pulses{n, 1, n, 1}
			}
			if c := Coefs(s); c != (api.Frame{}) {
				t.Fatalf("Coefs(%v) = %v", s, c)
			}
		}
	}
}

// 20.2: errors that can be told at once.
func TestErrors(t *testing.T) {
	full := api.Shape{Side: api.Side{15, 15, 15, 15, 15, 15, 15, 15}}
	down := full
	var high, low api.Frame
	for i := range high {
		full.Y[i/4][i%4], down.Y[i/4][i%4] = 12, -12
		high[i], low[i] = math.MaxInt, math.MinInt
	}
	for _, x := range []struct {
		f    api.Frame
		s    api.Shape
		want int
	}{
		{api.Frame{}, api.Shape{}, 0},
		{api.Frame{1, -2, 3}, api.Shape{}, 6},
		{api.Frame{31: -9}, api.Shape{}, 9},
		{api.Frame{100, -50, 0, 7}, api.Shape{Side: api.Side{5}, Y: [8]api.Pulses{{3, -1}}}, 29},
		{api.Frame{4: 100, 5: -50, 7: 7}, api.Shape{Side: api.Side{5}, Y: [8]api.Pulses{{3, -1}}}, 285},
		{api.Frame{28: -3}, api.Shape{Side: api.Side{7: 1}, Y: [8]api.Pulses{7: {2}}}, 7},
		{api.Frame{}, full, 32 * 12 * 32768},
		{high, api.Shape{}, 32 * mostCoef},
		{low, api.Shape{}, 32 * mostCoef},
		{high, full, 32 * (mostCoef - 12*32768)},
		{low, full, 32 * (mostCoef + 12*32768)},
		{high, down, 32 * (mostCoef + 12*32768)},
		{low, down, 32 * (mostCoef - 12*32768)},
	} {
		if n := Error(x.f, x.s); n != x.want {
			t.Errorf("Error(%v, %v) = %d, want %d", x.f, x.s, n, x.want)
		}
	}
}

// 20.2: errors of frames and shapes that have nothing to do with each other, some of whose bands stand for 0s: by the chapter's words.
func TestErrorByHand(t *testing.T) {
	next := numbers(8)
	for range 5000 {
		f, s := anyFrame(next), anyShape(next)
		for _, s := range []api.Shape{s, spoilt(next, s)} {
			if n, want := Error(f, s), errorOf(f, s); n != want {
				t.Fatalf("Error(%v, %v) = %d, want %d", f, s, n, want)
			}
		}
		if n := Error(Coefs(s), s); n != 0 {
			t.Fatalf("Error(Coefs(s), s) = %d, where s is %v", n, s)
		}
	}
}

// 20.2: a band that stands for 0s is as far as its coefficients are great, the others as they were.
func TestErrorOfNoBand(t *testing.T) {
	next := numbers(9)
	for at := range 32 {
		b := at / 4
		f, s := clamped(anyFrame(next)), anyShape(next)
		before, great := Error(f, s)-far(bandOf(f, b), s.Y[b], gainOf(s.Side[b])), far(bandOf(f, b), api.Pulses{}, 1)
		for _, step := range wrongSteps {
			other := s
			other.Side[b] = step
			if n := Error(f, other); n != before+great {
				t.Fatalf("Error(%v, %v) = %d, want %d", f, other, n, before+great)
			}
		}
		for _, x := range tooManyPulses {
			other := s
			other.Y[b][at%4] = x
			if n := Error(f, other); n != before+great {
				t.Fatalf("Error(%v, %v) = %d, want %d", f, other, n, before+great)
			}
		}
	}
}

// silent holds whether a shape is silent, and that it is so just where its steps are 0, and its coefficients -12 to 12.
func silent(t *testing.T, s api.Shape, want bool) {
	t.Helper()
	if Silent(s) != want {
		t.Fatalf("Silent(%v) = %t", s, !want)
	}
	is := true
	for _, step := range s.Side {
		is = is && step == 0
	}
	for _, x := range coefs(s) {
		is = is && x >= -12 && x <= 12
	}
	if is != want {
		t.Fatalf("by hand, whether %v is silent: %t", s, is)
	}
}

// 20.2: a shape of steps 0 is silent, with numbers up to 12 and -12 at each place; with another step in any band it isn't, be it a step or none.
func TestSilent(t *testing.T) {
	next := numbers(10)
	silent(t, api.Shape{}, true)
	for at := range 32 {
		for n := -12; n <= 12; n++ {
			for range 2 {
				s := anyShape(next)
				s.Side = api.Side{}
				s.Y[at/4][at%4] = n
				silent(t, s, true)
				s.Side[at/4] = 1 + int(next()%15)
				silent(t, s, false)
			}
		}
	}
	for b := range 8 {
		for step := 1; step < 16; step++ {
			s := api.Shape{}
			s.Side[b] = step
			silent(t, s, false)
			s.Y[b] = api.Pulses{1}
			silent(t, s, false)
		}
		for _, step := range wrongSteps {
			s := api.Shape{}
			s.Side[b] = step
			silent(t, s, false)
			s.Side[7-b] = -step
			silent(t, s, false)
		}
	}
}

// 20.2: a shape of steps 0 is silent with numbers beyond 12 and -12, too, as the coefficients of such a band are 0s.
func TestSilentOfGreatNumbers(t *testing.T) {
	next := numbers(11)
	for at := range 32 {
		for _, n := range tooManyPulses {
			for _, s := range []api.Shape{{}, anyShape(next)} {
				s.Side = api.Side{}
				s.Y[at/4][at%4] = n
				silent(t, s, true)
				s.Side[7-at/4] = 1
				silent(t, s, false)
			}
		}
	}
}

// 20.2: frames' shapes are silent just where no number is beyond 6 and -6.
func TestSilentFrames(t *testing.T) {
	next := numbers(12)
	sizes(t, func(t *testing.T, size int) {
		for at := range 32 {
			var f api.Frame
			for i := range f {
				f[i] = between(next, 6)
			}
			silent(t, mustShape(t, f, size), true)
			for _, x := range []int{6, -6, 7, -7, 12, -12, 13, -13, mostCoef, math.MaxInt, math.MinInt} {
				silent(t, mustShape(t, with(f, at, x), size), x == 6 || x == -6)
			}
		}
	})
}

// 20.3: a frame's shape is right for its size: it can be laid, and what is read of that has the same coefficients.
func TestRight(t *testing.T) {
	h := byHand()
	sizes(t, func(t *testing.T, size int) {
		next := numbers(uint64(100 + size))
		for i := range 200 {
			f := anyFrame(next)
			if i == 0 {
				f = api.Frame{}
			}
			s := mustShape(t, f, size)
			if !pack.Right(s, size) {
				t.Fatalf("%v isn't right for %d", s, size)
			}
			text, e := pack.Lay(pack.Packet{Frame: i, Shape: s}, size)
			if p, e2 := pack.Read(text); e != api.OK || e2 != api.OK || p.Shape != s || Coefs(p.Shape) != Coefs(s) {
				t.Fatalf("%v, of %d bytes, is read as %v, %d, %d", s, size, p, e, e2)
			}
			for b, k := range h.pulses(s.Side, size) {
				if n := pulsesOf(s.Y[b]); n != k || s.Side[b] < 0 || s.Side[b] > 15 {
					t.Fatalf("%v has %d pulses in the band %d, not %d", s, n, b, k)
				}
			}
		}
	})
}

// pulsesOf answers how many pulses there are.
func pulsesOf(y api.Pulses) int {
	sum := 0
	for _, x := range y {
		sum += max(x, -x)
	}
	return sum
}

// 20.3: no other pulses, as many in each band, are nearer: all of them, band by band; no pulse has another sign than its coefficient.
func TestNearest(t *testing.T) {
	h := byHand()
	sizes(t, func(t *testing.T, size int) {
		next := numbers(uint64(200 + size))
		for i := range 25 {
			f := anyFrame(next)
			if i == 0 {
				f = api.Frame{}
			}
			s, sum := mustShape(t, f, size), 0
			for b, y := range s.Y {
				c, gain := bandOf(clamped(f), b), gainOf(s.Side[b])
				nearest := far(c, y, gain)
				for _, z := range h.vectors[pulsesOf(y)] {
					if d := far(c, z, gain); d < nearest {
						t.Fatalf("of %v, by %d, %v are as far as %d, but %v as %d", c, gain, y, nearest, z, d)
					}
				}
				for at, n := range y {
					if n > 0 && c[at] < 0 || n < 0 && c[at] >= 0 {
						t.Fatalf("of %v %v", c, y)
					}
				}
				sum += nearest
			}
			if n := Error(f, s); n != sum {
				t.Fatalf("Error(%v, %v) = %d, want %d", f, s, n, sum)
			}
		}
	})
}

// 20.3: no other shape of the same steps, with as many pulses in each band, has a lesser error.
func TestNoLesserError(t *testing.T) {
	h := byHand()
	sizes(t, func(t *testing.T, size int) {
		next := numbers(uint64(300 + size))
		for range 40 {
			f := anyFrame(next)
			s := mustShape(t, f, size)
			least := Error(f, s)
			for range 30 {
				other := s
				for b, y := range s.Y {
					if l := h.vectors[pulsesOf(y)]; next()%3 == 0 {
						other.Y[b] = l[next()%uint64(len(l))]
					}
				}
				if n := Error(f, other); n < least {
					t.Fatalf("of %v the error of %v is %d, but of %v %d", f, s, least, other, n)
				}
			}
		}
	})
}

// Rules 3, 4 and 6: one call says nothing to another one, whether it is refused or not, and what comes in stays.
func TestTwice(t *testing.T) {
	type one struct {
		f, c   api.Frame
		size   int
		s      api.Shape
		far    int
		silent bool
	}
	next := numbers(13)
	var list []one
	for i := range 300 {
		f, size := anyFrame(next), least+i%13
		if i%30 == 0 {
			f = api.Frame{}
		}
		s := mustShape(t, f, size)
		list = append(list, one{f, Coefs(s), size, s, Error(f, s), Silent(s)})
	}
	for i := len(list) - 1; i >= 0; i-- {
		x, other := list[i], list[next()%300]
		kept := x
		Shape(other.f, 11)
		Shape(x.f, other.size)
		Coefs(spoilt(next, x.s))
		Error(other.f, spoilt(next, x.s))
		Silent(other.s)
		if again := mustShape(t, x.f, x.size); again != x.s {
			t.Fatalf("Shape(%v, %d) = %v, the first time %v", x.f, x.size, again, x.s)
		}
		if c := Coefs(x.s); c != x.c || Error(x.f, x.s) != x.far || Silent(x.s) != x.silent {
			t.Fatalf("of %v %v, %d, %t, the first time %v, %d, %t", x.s, c, Error(x.f, x.s), Silent(x.s), x.c, x.far, x.silent)
		}
		if x != kept {
			t.Fatalf("%v became %v", kept, x)
		}
	}
}
