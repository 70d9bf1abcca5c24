package pack

import (
	"fmt"
	"math"
	"slices"
	"strconv"
	"strings"
	"sync"
	"testing"

	"belfry/api"
)

const (
	least    = 12    // bytes of the shortest packet
	greatest = 24    // bytes of the longest one
	frames   = 65536 // how many frames' numbers there are
)

// given are packets, and their bytes, laid by another program; the first one is the chapter's example.
var given = []struct {
	size, frame int
	s           api.Side
	y           [8]api.Pulses
	hex         string
}{
	{24, 0, api.Side{0, 0, 0, 0, 0, 0, 0, 0}, [8]api.Pulses{{0, 0, 0, 12}, {0, 0, 0, 12}, {0, 0, 0, 12}, {0, 0, 0, 12}, {0, 0, 0, 12}, {0, 0, 0, 12}, {0, 0, 0, 12}, {0, 0, 0, 12}}, "000000000000000000000000000000000000000000009fb4"},
	{24, 65535, api.Side{15, 15, 15, 15, 15, 15, 15, 15}, [8]api.Pulses{{-12, 0, 0, 0}, {-12, 0, 0, 0}, {-12, 0, 0, 0}, {-12, 0, 0, 0}, {-12, 0, 0, 0}, {-12, 0, 0, 0}, {-12, 0, 0, 0}, {-12, 0, 0, 0}}, "ffffffffffff91fc8fe47f23f91fc8fe47f23f0000009342"},
	{12, 0, api.Side{0, 0, 0, 0, 0, 0, 0, 0}, [8]api.Pulses{{0, 0, 0, 2}, {0, 0, 0, 2}, {0, 0, 0, 2}, {0, 0, 0, 2}, {0, 0, 0, 1}, {0, 0, 0, 1}, {0, 0, 0, 1}, {0, 0, 0, 1}}, "00000000000000000000e139"},
	{12, 5669, api.Side{3, 6, 12, 11, 9, 4, 8, 3}, [8]api.Pulses{{}, {}, {1, 5, 0, -1}, {1, 2, -3, 1}, {0, 1, 0, -2}, {}, {1, 0, 0, -1}, {}}, "162536cb948353d121b33726"},
	{12, 26428, api.Side{0, 1, 0, 3, 3, 0, 0, 3}, [8]api.Pulses{{0, 0, 0, 1}, {0, 0, 2, 0}, {1, 0, 0, 0}, {1, -1, 0, 1}, {-1, 0, 0, 2}, {}, {}, {-2, 0, 0, -1}}, "673c0103300306cc9c51ca94"},
	{13, 0, api.Side{0, 0, 0, 0, 0, 0, 0, 0}, [8]api.Pulses{{0, 0, 0, 2}, {0, 0, 0, 2}, {0, 0, 0, 2}, {0, 0, 0, 2}, {0, 0, 0, 2}, {0, 0, 0, 2}, {0, 0, 0, 2}, {0, 0, 0, 2}}, "0000000000000000000000d40f"},
	{13, 53266, api.Side{7, 3, 6, 12, 6, 4, 4, 15}, [8]api.Pulses{{0, 1, 0, -2}, {}, {0, 0, 0, 2}, {7, -2, 0, 0}, {-1, -1, 0, 0}, {}, {}, {3, 4, -3, 1}}, "d012736c644f1a0f4fd85280b1"},
	{13, 62939, api.Side{3, 2, 3, 1, 0, 1, 0, 0}, [8]api.Pulses{{2, 0, -1, 2}, {1, 1, 1, 0}, {-1, 0, -3, 0}, {0, 0, -2, 0}, {0, 1, 0, 0}, {0, 1, 0, 1}, {-1, 0, 0, 0}, {}}, "f5db323101007730733c47b236"},
	{14, 0, api.Side{0, 0, 0, 0, 0, 0, 0, 0}, [8]api.Pulses{{0, 0, 0, 3}, {0, 0, 0, 3}, {0, 0, 0, 3}, {0, 0, 0, 3}, {0, 0, 0, 2}, {0, 0, 0, 2}, {0, 0, 0, 2}, {0, 0, 0, 2}}, "00000000000000000000000084f9"},
	{14, 58883, api.Side{12, 9, 5, 14, 14, 9, 9, 1}, [8]api.Pulses{{0, 2, 1, -4}, {0, -1, 2, 0}, {}, {-3, 0, -6, 0}, {-3, 0, 3, 1}, {-1, 0, 1, 0}, {0, 0, 2, 0}, {}}, "e603c95ee99113cd57fc0b46afa4"},
	{14, 8712, api.Side{3, 3, 0, 1, 3, 2, 0, 0}, [8]api.Pulses{{0, -2, 0, 3}, {0, -3, 1, -1}, {1, 0, 0, 0}, {1, 0, 0, 1}, {2, 0, -1, -2}, {0, 1, 1, 1}, {0, 0, -1, 0}, {-1, 0, 0, 0}}, "2208330132002015f49de39f3a56"},
	{15, 0, api.Side{0, 0, 0, 0, 0, 0, 0, 0}, [8]api.Pulses{{0, 0, 0, 3}, {0, 0, 0, 3}, {0, 0, 0, 3}, {0, 0, 0, 3}, {0, 0, 0, 3}, {0, 0, 0, 3}, {0, 0, 0, 3}, {0, 0, 0, 3}}, "00000000000000000000000000280c"},
	{15, 8909, api.Side{13, 4, 0, 12, 9, 1, 11, 8}, [8]api.Pulses{{1, 8, 0, 2}, {0, 1, 0, 0}, {}, {0, 2, 7, 0}, {0, 0, -6, -1}, {}, {3, 3, -1, 2}, {1, 0, -1, -3}}, "22cdd40c91b835e81f819a746bab0e"},
	{15, 8409, api.Side{1, 2, 3, 1, 2, 2, 2, 2}, [8]api.Pulses{{-2, 0, 1, 0}, {-1, -1, -1, -1}, {2, 0, 1, -1}, {-1, 0, -1, 0}, {-1, 0, -1, -1}, {0, 0, 2, -1}, {0, 2, 0, 1}, {0, 1, -2, 0}}, "20d912312222a50323b7a1ce13567a"},
	{16, 0, api.Side{0, 0, 0, 0, 0, 0, 0, 0}, [8]api.Pulses{{0, 0, 0, 4}, {0, 0, 0, 4}, {0, 0, 0, 4}, {0, 0, 0, 4}, {0, 0, 0, 4}, {0, 0, 0, 4}, {0, 0, 0, 4}, {0, 0, 0, 4}}, "0000000000000000000000000000a96a"},
	{16, 5140, api.Side{14, 3, 3, 8, 14, 12, 10, 10}, [8]api.Pulses{{2, 4, -5, 0}, {}, {}, {-1, 0, 0, -4}, {5, -2, -4, 0}, {0, -3, -3, -3}, {-2, 2, 2, -1}, {-2, -3, -2, 0}}, "1414e338ecaa5e954dc28c1a2eabab45"},
	{16, 58949, api.Side{3, 0, 2, 0, 2, 3, 2, 3}, [8]api.Pulses{{-2, 0, 4, -1}, {1, 1, 0, 1}, {0, 0, 3, -1}, {1, 0, 0, 1}, {1, 0, 0, -3}, {1, -1, 3, 0}, {0, 1, 2, 1}, {1, 0, -3, -1}}, "e6453020232397d705c90d182c73f114"},
	{17, 0, api.Side{0, 0, 0, 0, 0, 0, 0, 0}, [8]api.Pulses{{0, 0, 0, 5}, {0, 0, 0, 5}, {0, 0, 0, 5}, {0, 0, 0, 5}, {0, 0, 0, 5}, {0, 0, 0, 5}, {0, 0, 0, 5}, {0, 0, 0, 5}}, "0000000000000000000000000000004ec3"},
	{17, 51361, api.Side{1, 5, 5, 15, 3, 2, 1, 13}, [8]api.Pulses{{0, 0, 1, 1}, {3, -1, -3, 0}, {3, 0, -1, 3}, {-1, 1, -10, 0}, {3, 0, 1, -1}, {1, 0, 1, -1}, {0, -1, -1, 0}, {8, 1, -2, 1}}, "c8a1155f321d15bb5d11ee72a5f1564bf2"},
	{17, 4361, api.Side{2, 1, 1, 1, 2, 0, 3, 1}, [8]api.Pulses{{0, -1, -5, -1}, {-4, 0, -1, 0}, {-1, -3, 1, 0}, {1, 3, 0, -1}, {2, -2, 2, 1}, {1, -1, 0, -1}, {-2, 0, 0, 5}, {0, 3, 0, -1}}, "110921112031126c6e64fc60ce5039a214"},
	{18, 0, api.Side{0, 0, 0, 0, 0, 0, 0, 0}, [8]api.Pulses{{0, 0, 0, 7}, {0, 0, 0, 7}, {0, 0, 0, 7}, {0, 0, 0, 7}, {0, 0, 0, 7}, {0, 0, 0, 7}, {0, 0, 0, 7}, {0, 0, 0, 7}}, "000000000000000000000000000000006a0a"},
	{18, 46376, api.Side{3, 7, 8, 4, 11, 14, 7, 14}, [8]api.Pulses{{1, 0, 0, -1}, {0, -1, -2, -4}, {-2, 0, -1, -4}, {-1, 0, 0, 2}, {1, 0, 5, -5}, {2, 0, -2, -8}, {-2, -1, 0, -4}, {0, -8, 3, 1}}, "b5283784be7e987b2ab81f930bcea20af5fa"},
	{18, 64654, api.Side{1, 3, 2, 3, 2, 3, 0, 3}, [8]api.Pulses{{0, 0, -7, 0}, {-2, -3, -2, 2}, {1, 1, -2, 3}, {3, -3, -2, 1}, {1, -3, 3, 0}, {2, 3, -1, 1}, {0, -3, 1, 0}, {0, -2, -2, -3}}, "fc8e1323230306e4e1cd5293c8e8f8696dd4"},
	{19, 0, api.Side{0, 0, 0, 0, 0, 0, 0, 0}, [8]api.Pulses{{0, 0, 0, 9}, {0, 0, 0, 9}, {0, 0, 0, 9}, {0, 0, 0, 9}, {0, 0, 0, 9}, {0, 0, 0, 9}, {0, 0, 0, 9}, {0, 0, 0, 9}}, "0000000000000000000000000000000000c7ec"},
	{19, 52389, api.Side{13, 4, 7, 4, 14, 5, 15, 2}, [8]api.Pulses{{-2, 6, 4, 0}, {-3, 0, 4, 0}, {-1, 6, 2, 0}, {-1, 3, -2, -1}, {0, -8, -4, 0}, {2, -5, 0, 0}, {0, 0, -4, 8}, {-3, -1, 0, 0}}, "cca5d474e5f247760ccd9c1107c9e010bd2b4a"},
	{19, 31722, api.Side{0, 2, 1, 3, 1, 3, 2, 3}, [8]api.Pulses{{-1, -2, -2, -2}, {-4, 0, 4, -1}, {0, 1, -2, 6}, {1, -1, -2, -7}, {0, -3, 4, 2}, {1, 0, 7, -1}, {2, 1, -1, 5}, {-4, 1, 1, 3}}, "7bea021313236c73782c23b184585b5676d02d"},
	{20, 0, api.Side{0, 0, 0, 0, 0, 0, 0, 0}, [8]api.Pulses{{0, 0, 0, 11}, {0, 0, 0, 11}, {0, 0, 0, 11}, {0, 0, 0, 11}, {0, 0, 0, 11}, {0, 0, 0, 11}, {0, 0, 0, 11}, {0, 0, 0, 11}}, "00000000000000000000000000000000000045ab"},
	{20, 2479, api.Side{8, 15, 10, 7, 9, 5, 2, 9}, [8]api.Pulses{{0, -1, 6, 4}, {1, 7, -3, -1}, {1, 0, 4, -7}, {0, 3, 1, -7}, {1, 2, 5, -4}, {-2, -1, 0, -6}, {2, 0, 0, 3}, {0, -8, -1, 3}}, "09af8fa7952906a1f1894431c5a3115d42046bee"},
	{20, 4616, api.Side{0, 3, 3, 2, 2, 2, 2, 1}, [8]api.Pulses{{0, 5, 0, 4}, {0, -6, -6, 0}, {0, 5, -1, -6}, {2, -3, -4, 2}, {1, 4, 5, 1}, {0, 10, 0, 1}, {4, -4, 1, 2}, {-1, 2, -4, 2}}, "1208033222211e81c70b2ae71700ee51e2b0ea72"},
	{21, 0, api.Side{0, 0, 0, 0, 0, 0, 0, 0}, [8]api.Pulses{{0, 0, 0, 12}, {0, 0, 0, 12}, {0, 0, 0, 12}, {0, 0, 0, 12}, {0, 0, 0, 12}, {0, 0, 0, 12}, {0, 0, 0, 12}, {0, 0, 0, 12}}, "00000000000000000000000000000000000000b361"},
	{21, 64068, api.Side{11, 8, 14, 3, 6, 1, 5, 8}, [8]api.Pulses{{4, -3, 1, 4}, {3, -4, -1, 4}, {0, 2, 3, -7}, {2, -2, -7, 1}, {-7, 4, -1, 0}, {6, 3, 2, 1}, {1, 0, -2, 9}, {0, -2, -7, -3}}, "fa44b8e3615862e28581266ba89bbed04940cdbcb8"},
	{21, 63622, api.Side{1, 1, 1, 1, 3, 1, 0, 1}, [8]api.Pulses{{-2, -1, 8, 1}, {1, 4, 0, -7}, {-1, 4, -5, -2}, {6, 2, -3, 1}, {-7, 1, 2, -2}, {-6, 2, -3, -1}, {-4, 3, -1, 4}, {2, -2, 1, 7}}, "f886111131014050d1ca82f9a879c0b5a986a0d96c"},
	{22, 0, api.Side{0, 0, 0, 0, 0, 0, 0, 0}, [8]api.Pulses{{0, 0, 0, 12}, {0, 0, 0, 12}, {0, 0, 0, 12}, {0, 0, 0, 12}, {0, 0, 0, 12}, {0, 0, 0, 12}, {0, 0, 0, 12}, {0, 0, 0, 12}}, "0000000000000000000000000000000000000000f6b8"},
	{22, 9498, api.Side{13, 11, 6, 10, 4, 6, 0, 1}, [8]api.Pulses{{-2, 3, -6, -1}, {3, 3, -2, 4}, {-4, -5, 1, 2}, {-5, -2, -5, 0}, {-1, 9, -1, -1}, {-7, 3, -1, -1}, {0, 9, -3, 0}, {-4, 1, 6, 1}}, "251adb6a4601434a759b3cefb2fcc4a4436cf6004490"},
	{22, 3179, api.Side{3, 2, 2, 3, 3, 2, 0, 3}, [8]api.Pulses{{-1, 0, -5, -6}, {8, -3, 1, 0}, {-7, 3, -1, -1}, {4, -6, 0, 2}, {-1, 2, 8, -1}, {0, -5, -2, -5}, {4, 5, 0, 3}, {2, -3, 2, -5}}, "0c6b3223320321ec5f2252cae261861591c6e1008171"},
	{23, 0, api.Side{0, 0, 0, 0, 0, 0, 0, 0}, [8]api.Pulses{{0, 0, 0, 12}, {0, 0, 0, 12}, {0, 0, 0, 12}, {0, 0, 0, 12}, {0, 0, 0, 12}, {0, 0, 0, 12}, {0, 0, 0, 12}, {0, 0, 0, 12}}, "00000000000000000000000000000000000000000037d9"},
	{23, 31069, api.Side{3, 2, 11, 4, 15, 12, 11, 3}, [8]api.Pulses{{7, 0, -3, 2}, {6, 1, -3, -2}, {0, -4, -6, 2}, {-1, -1, 10, 0}, {-8, 0, 4, 0}, {0, -2, 4, 6}, {6, 1, 3, 2}, {-1, -3, -2, -6}}, "795d32b4fcb383f3dcc2b04a28c702f9ee051500002a92"},
	{23, 43731, api.Side{3, 3, 1, 2, 1, 2, 2, 2}, [8]api.Pulses{{7, -1, -3, 1}, {6, 2, -3, -1}, {4, -3, 1, -4}, {3, 0, 8, 1}, {-4, 0, 5, -3}, {4, -3, 2, 3}, {0, 2, -6, 4}, {2, -5, 3, -2}}, "aad3331212228513e6d8ba950669b18014074500004386"},
	{24, 26469, api.Side{11, 5, 6, 0, 4, 1, 9, 2}, [8]api.Pulses{{-3, -3, -4, 2}, {7, -3, 1, 1}, {-3, 2, -4, -3}, {6, 1, 3, -2}, {4, 0, -6, 2}, {-7, -1, 3, 1}, {-4, 1, -2, -5}, {-4, -1, -1, 6}}, "6765b560419259e43215daf715eb44199d2d000000004e17"},
	{24, 59495, api.Side{3, 0, 0, 2, 2, 1, 1, 2}, [8]api.Pulses{{-1, -2, 4, -5}, {-3, -5, -1, 3}, {-2, 5, 2, 3}, {7, 1, 0, 4}, {4, -1, -4, 3}, {6, 4, -2, 0}, {-3, -1, 3, -5}, {-1, -7, 1, -3}}, "e8673002211226bae0117d0866053f3558e5cf000000e83f"},
	{12, 1, api.Side{0, 0, 0, 0, 0, 0, 0, 15}, [8]api.Pulses{{-1, 0, 0, 0}, {-1, 0, 0, 0}, {-1, 0, 0, 0}, {-1, 0, 0, 0}, {-1, 0, 0, 0}, {-1, 0, 0, 0}, {}, {-12, 0, 0, 0}}, "00010000000fffffe47ea80c"},
	{12, 256, api.Side{15, 0, 0, 0, 0, 0, 0, 0}, [8]api.Pulses{{-3, 0, 2, -7}, {0, -1, 0, 0}, {0, 0, 0, 1}, {1, 0, 0, 0}, {-1, 0, 0, 0}, {0, 1, 0, 0}, {0, 0, 0, -1}, {}}, "0100f000000053fd1bc2aa92"},
	{12, 32768, api.Side{15, 15, 15, 15, 15, 15, 15, 15}, [8]api.Pulses{{0, 0, -1, -1}, {1, 0, 1, 0}, {-2, 0, 0, 0}, {0, 0, 1, 1}, {0, 0, 1, 0}, {0, 0, -1, 0}, {0, -1, 0, 0}, {0, 0, 1, 0}}, "8000ffffffff2d3e24ea7c09"},
	{16, 65535, api.Side{15, 15, 15, 15, 15, 15, 15, 15}, [8]api.Pulses{{-4, 0, 0, 0}, {-4, 0, 0, 0}, {-4, 0, 0, 0}, {-4, 0, 0, 0}, {-4, 0, 0, 0}, {-4, 0, 0, 0}, {-4, 0, 0, 0}, {-4, 0, 0, 0}}, "ffffffffffffbfbfbfbfbfbfbfbfa55c"},
	{20, 513, api.Side{9, 7, 5, 4, 3, 2, 1, 0}, [8]api.Pulses{{-8, 1, 2, 1}, {-4, 1, -4, -3}, {5, 2, -1, 4}, {-2, -3, 1, 6}, {7, 1, -2, 1}, {-4, -1, -4, 0}, {3, -5, 0, -1}, {1, 4, -1, 1}}, "0201975432108cb33c5c2486ed2ed2758d42ece6"},
	{21, 7, api.Side{1, 2, 3, 4, 5, 6, 7, 8}, [8]api.Pulses{{-1, 6, 5, 0}, {-8, -2, -1, 1}, {-7, 3, 0, 2}, {-2, 1, 2, -7}, {6, -2, 1, -3}, {0, 3, 3, 6}, {-1, -5, 0, -6}, {-5, -1, -5, -1}}, "0007123456782d346d22487cf7d08388afaed10545"},
	{22, 7, api.Side{1, 2, 3, 4, 5, 6, 7, 8}, [8]api.Pulses{{2, -2, -7, -1}, {3, -4, -3, -2}, {-2, 6, 4, 0}, {3, -3, -2, -4}, {0, 1, -1, 10}, {4, 1, 0, -7}, {5, 0, -7, 0}, {1, 10, 0, 1}}, "00071234567835da87d1dc9ef01a2f7dbba41e00c8c2"},
	{23, 65534, api.Side{8, 0, 8, 0, 8, 0, 8, 0}, [8]api.Pulses{{-12, 0, 0, 0}, {-12, 0, 0, 0}, {-12, 0, 0, 0}, {-12, 0, 0, 0}, {-12, 0, 0, 0}, {-12, 0, 0, 0}, {-12, 0, 0, 0}, {-12, 0, 0, 0}}, "fffe8080808091fc8fe47f23f91fc8fe47f23f0000ce22"},
}

// wrongSizes are sizes that no packet has; some of them are one by their rest.
var wrongSizes = []int{
	11, 25, 0, -1, 1, 2, 8, 9, 10, 26, 32, -11, -12, -24, -25, 100, 256 + 12, 1 << 31, -1 << 31, 1<<32 + 12, -1<<32 + 24, 1<<61 + 12, 1<<61 + 24, 1 << 60,
	math.MaxInt - 1, math.MaxInt, math.MinInt, math.MinInt + 1, math.MinInt + 12, math.MinInt + 24,
}

// wrongFrames are numbers that no frame has; some of them are one by their rest.
var wrongFrames = []int{
	-1, frames, -2, frames + 1, 2 * frames, -frames, -frames + 1, 1 << 31, -1 << 31, 1 << 32, 1<<32 + 7, -1 << 32, math.MaxInt - 1, math.MaxInt, math.MinInt, math.MinInt + 1, math.MinInt + 7,
}

// wrongSteps are numbers that are no step; some of them are one by their rest.
var wrongSteps = []int{
	-1, 16, -2, 17, 31, 32, -15, -16, 255, 256, 1 << 31, -1 << 31, 1 << 32, 1<<32 + 5, math.MaxInt - 1, math.MaxInt, math.MinInt, math.MinInt + 1,
}

// numbers answers a source of words that is the same in each run.
func numbers(seed uint64) func() uint64 {
	return func() uint64 {
		seed += 0x9e3779b97f4a7c15
		z := (seed ^ seed>>30) * 0xbf58476d1ce4e5b9
		z = (z ^ z>>27) * 0x94d049bb133111eb
		return z ^ z>>31
	}
}

// hand lays and reads packets by the chapters' words.
type hand struct {
	vectors [13][]api.Pulses       // those of so many pulses, in the order of their numbers
	number  [13]map[api.Pulses]int // their numbers
	bits    [13]int                // how many bits their numbers have
}

// byHand answers the one hand of all tests, as to put all vectors in order takes its time.
var byHand = sync.OnceValue(func() *hand {
	h := &hand{}
	h.walk(api.Pulses{}, 0, 0)
	for k, l := range h.vectors {
		slices.SortFunc(l, compare)
		h.number[k] = map[api.Pulses]int{}
		for i, y := range l {
			h.number[k][y] = i
		}
		for n := 1; n < len(l); n *= 2 {
			h.bits[k]++
		}
	}
	return h
})

// walk puts each vector of up to 12 pulses to those of as many.
func (h *hand) walk(y api.Pulses, at, pulses int) {
	if at == len(y) {
		h.vectors[pulses] = append(h.vectors[pulses], y)
		return
	}
	for x := -12 + pulses; x <= 12-pulses; x++ {
		y[at] = x
		h.walk(y, at+1, pulses+max(x, -x))
	}
}

// rank answers a number's place in the order 0, 1, -1, 2, -2, and so on.
func rank(x int) int {
	if x > 0 {
		return 2*x - 1
	}
	return -2 * x
}

// compare compares two vectors at the first place where they are unlike.
func compare(a, b api.Pulses) int {
	for i := range a {
		if a[i] != b[i] {
			return rank(a[i]) - rank(b[i])
		}
	}
	return 0
}

// cost answers what pulses cost together.
func (h *hand) cost(k [8]int) int {
	sum := 0
	for _, n := range k {
		sum += h.bits[n]
	}
	return sum
}

// pulses answers how many pulses each band has, by looking at all bands each time.
func (h *hand) pulses(s api.Side, size int) [8]int {
	var k [8]int
	for {
		best, left := -1, 8*size-64-h.cost(k)
		for b := range k {
			if k[b] < 12 && h.bits[k[b]+1]-h.bits[k[b]] <= left && (best < 0 || s[b]-k[b] > s[best]-k[best]) {
				best = b
			}
		}
		if best < 0 {
			return k
		}
		k[best]++
	}
}

// count answers a vector's pulses, 13 for all that are more.
func count(y api.Pulses) int {
	sum := 0
	for _, x := range y {
		if x < -12 || x > 12 {
			return 13
		}
		sum += max(x, -x)
	}
	return min(sum, 13)
}

// right tells whether a shape is right.
func (h *hand) right(s api.Shape, size int) bool {
	if size < least || size > greatest {
		return false
	}
	for _, step := range s.Side {
		if step < 0 || step > 15 {
			return false
		}
	}
	for b, k := range h.pulses(s.Side, size) {
		if count(s.Y[b]) != k {
			return false
		}
	}
	return true
}

// field is a number, and how many bits it has.
type field struct{ x, n int }

// The places of a packet's fields; the last one is what is left.
const (
	frameAt  = 0
	stepsAt  = 1
	pulsesAt = 9
	leftAt   = 17
)

// fields answers what a packet is laid of, ahead of its seal.
func (h *hand) fields(p Packet, size int) []field {
	out := []field{{p.Frame, 16}}
	for _, step := range p.Shape.Side {
		out = append(out, field{step, 4})
	}
	left := 8*size - 64
	for _, y := range p.Shape.Y {
		k := count(y)
		out = append(out, field{h.number[k][y], h.bits[k]})
		left -= h.bits[k]
	}
	return append(out, field{0, left})
}

// laid answers fields as bytes: all of them must be whole ones together.
func laid(l []field) string {
	var text strings.Builder
	for _, f := range l {
		if f.n > 0 {
			fmt.Fprintf(&text, "%0*b", f.n, f.x)
		}
	}
	var out []byte
	for digits := text.String(); digits != ""; digits = digits[8:] {
		x, err := strconv.ParseUint(digits[:8], 2, 8)
		if err != nil {
			panic(err)
		}
		out = append(out, byte(x))
	}
	return string(out)
}

// sealed answers bytes with their sum behind them.
func sealed(s string) string {
	r := 65535
	for i := range len(s) {
		for worth := 128; worth > 0; worth /= 2 {
			highest, bit := r/32768, int(s[i])/worth%2
			r = r * 2 % 65536
			if highest != bit {
				r ^= 4129
			}
		}
	}
	return s + string([]byte{byte(r / 256), byte(r % 256)})
}

// lay answers a packet's bytes.
func (h *hand) lay(p Packet, size int) string { return sealed(laid(h.fields(p, size))) }

// taker answers what takes so many of the next bits of bytes as a number.
func taker(s string) func(n int) int {
	var digits strings.Builder
	for i := range len(s) {
		fmt.Fprintf(&digits, "%08b", s[i])
	}
	rest := digits.String()
	return func(n int) int {
		x, _ := strconv.ParseUint("0"+rest[:n], 2, 64)
		rest = rest[n:]
		return int(x)
	}
}

// read answers what bytes are a packet of.
func (h *hand) read(s string) (Packet, api.Errno) {
	if len(s) < least || len(s) > greatest {
		return Packet{}, api.ErrArg
	}
	body := s[:len(s)-2]
	if sealed(body) != s {
		return Packet{}, api.ErrSum
	}
	take := taker(body)
	p := Packet{Frame: take(16)}
	for b := range p.Shape.Side {
		p.Shape.Side[b] = take(4)
	}
	left := 8*len(s) - 64
	for b, k := range h.pulses(p.Shape.Side, len(s)) {
		i := take(h.bits[k])
		if i >= len(h.vectors[k]) {
			return Packet{}, api.ErrForm
		}
		p.Shape.Y[b] = h.vectors[k][i]
		left -= h.bits[k]
	}
	if take(left) != 0 {
		return Packet{}, api.ErrForm
	}
	return p, api.OK
}

// with answers steps of 0 but for one.
func with(at, step int) api.Side {
	var s api.Side
	s[at] = step
	return s
}

// anySide answers steps, some of them nearly the same, others far from one another.
func anySide(next func() uint64) api.Side {
	var s api.Side
	unlike := 1 + next()%16
	for b := range s {
		s[b] = int(next() % unlike)
	}
	return s
}

// anyShape answers a shape of these steps that is right for the size.
func (h *hand) anyShape(next func() uint64, s api.Side, size int) api.Shape {
	out := api.Shape{Side: s}
	for b, k := range h.pulses(s, size) {
		l := h.vectors[k]
		out.Y[b] = l[next()%uint64(len(l))]
	}
	return out
}

// anyPacket answers a packet of that size.
func (h *hand) anyPacket(next func() uint64, size int) Packet {
	return Packet{Frame: int(next() % frames), Shape: h.anyShape(next, anySide(next), size)}
}

// lone answers a shape of these steps whose bands have all of their pulses in their last coefficient.
func (h *hand) lone(s api.Side, size int) api.Shape {
	out := api.Shape{Side: s}
	for b, k := range h.pulses(s, size) {
		out.Y[b][3] = k
	}
	return out
}

// sizes hands each size that a packet may have to a test of its own.
func sizes(t *testing.T, each func(t *testing.T, size int)) {
	for size := least; size <= greatest; size++ {
		t.Run(strconv.Itoa(size), func(t *testing.T) { each(t, size) })
	}
}

// mustLay answers the bytes of what can be laid: as many as its size, and those by the chapter's words.
func mustLay(t *testing.T, p Packet, size int) string {
	t.Helper()
	s, e := Lay(p, size)
	if e != api.OK || len(s) != size {
		t.Fatalf("Lay(%v, %d) = %x, %d", p, size, s, e)
	}
	if want := byHand().lay(p, size); s != want {
		t.Fatalf("Lay(%v, %d) = %x, want %x", p, size, s, want)
	}
	return s
}

// noLay holds that nothing is laid.
func noLay(t *testing.T, p Packet, size int, want api.Errno) {
	t.Helper()
	if s, e := Lay(p, size); s != "" || e != want {
		t.Fatalf("Lay(%v, %d) = %x, %d, want none, %d", p, size, s, e, want)
	}
}

// peeked holds that Peek tells what Read does: a packet's number just where it can be read.
func peeked(t *testing.T, s string, p Packet, e api.Errno) {
	t.Helper()
	if n, ok := Peek(s); n != p.Frame || ok != (e == api.OK) {
		t.Fatalf("Peek(%x) = %d, %t, where Read is %v, %d", s, n, ok, p, e)
	}
}

// mustRead holds that a packet is read, and nothing else laid of it.
func mustRead(t *testing.T, s string, want Packet) {
	t.Helper()
	p, e := Read(s)
	if p != want || e != api.OK {
		t.Fatalf("Read(%x) = %v, %d, want %v", s, p, e, want)
	}
	peeked(t, s, p, e)
	if again, e := Lay(p, len(s)); again != s || e != api.OK {
		t.Fatalf("%x is read as %v, which is laid as %x, %d", s, p, again, e)
	}
}

// noRead holds that nothing is read.
func noRead(t *testing.T, s string, want api.Errno) {
	t.Helper()
	p, e := Read(s)
	if p != (Packet{}) || e != want {
		t.Fatalf("Read(%x) = %v, %d, want none, %d", s, p, e, want)
	}
	peeked(t, s, p, e)
}

// asByHand holds that bytes are read as by the chapter's words, and answers whether they are.
func asByHand(t *testing.T, s string) bool {
	t.Helper()
	p, e := byHand().read(s)
	if e == api.OK {
		mustRead(t, s, p)
	} else {
		noRead(t, s, e)
	}
	return e == api.OK
}

// wrongShape holds that a shape isn't right for the size, nor laid.
func wrongShape(t *testing.T, s api.Shape, size int) {
	t.Helper()
	if Right(s, size) {
		t.Fatalf("Right(%v, %d)", s, size)
	}
	noLay(t, Packet{Frame: 1, Shape: s}, size, api.ErrForm)
}

// changed answers bytes some of whose bits from a place on are changed: by the bits of a pattern, its lowest one first.
func changed(s string, from int, pattern uint32) string {
	l := []byte(s)
	for at := from; pattern != 0; at, pattern = at+1, pattern>>1 {
		if pattern&1 == 1 {
			l[at/8] ^= 128 >> (at % 8)
		}
	}
	return string(l)
}

// anyBytes answers so many bytes.
func anyBytes(next func() uint64, size int) string {
	l := make([]byte, size)
	for i := range l {
		l[i] = byte(next())
	}
	return string(l)
}

// 19.1 and 19.2: packets that another program laid, the chapter's example among them.
func TestGiven(t *testing.T) {
	for _, x := range given {
		p := Packet{Frame: x.frame, Shape: api.Shape{Side: x.s, Y: x.y}}
		if !Right(p.Shape, x.size) {
			t.Errorf("not right for %d: %v", x.size, p.Shape)
		}
		s := mustLay(t, p, x.size)
		if got := fmt.Sprintf("%x", s); got != x.hex {
			t.Errorf("Lay(%v, %d) = %s, want %s", p, x.size, got, x.hex)
		}
		mustRead(t, s, p)
	}
}

// 19.1: the chapter's example: a number, steps 0, and of all pulses those that there must be.
func TestExample(t *testing.T) {
	p := Packet{Frame: 0x1234}
	for b := range p.Shape.Y {
		p.Shape.Y[b] = api.Pulses{0, 0, 0, 12}
	}
	s := mustLay(t, p, 24)
	if s != sealed("\x12\x34"+strings.Repeat("\x00", 20)) {
		t.Errorf("the example is %x", s)
	}
	mustRead(t, s, p)
	wrongShape(t, api.Shape{}, 24)
}

// 19.1: where each number stands, in a packet laid by hand: 104 bits for pulses, all bands with 12 of them.
func TestPlaces(t *testing.T) {
	p := Packet{Frame: 0x0102, Shape: api.Shape{Side: api.Side{1, 2, 3, 4, 5, 6, 7, 8}}}
	for b := range p.Shape.Y {
		p.Shape.Y[b] = api.Pulses{0, 0, 0, 12}
	}
	p.Shape.Y[0] = api.Pulses{0, 0, 0, -12} // the number 1 of the first 13 bits
	p.Shape.Y[7] = api.Pulses{0, 0, 1, 11}  // the number 2 of the last ones
	want := "\x01\x02" + "\x12\x34\x56\x78" + "\x00\x08\x00\x00\x00\x00\x00\x00\x00\x00\x00\x00\x02"
	for size := 21; size <= greatest; size++ {
		if s := mustLay(t, p, size); s != sealed(want+strings.Repeat("\x00", size-21)) {
			t.Errorf("of %d bytes %x", size, s)
		}
	}
}

// 19.1: a shape is right just for the sizes by the chapter's words: at its own, and at all others.
func TestRight(t *testing.T) {
	h := byHand()
	sizes(t, func(t *testing.T, size int) {
		next, others := numbers(uint64(size)), 0
		for range 200 {
			s := h.anyShape(next, anySide(next), size)
			kept := s
			for at := 8; at < 30; at++ {
				want := h.right(s, at)
				if at == size && !want {
					t.Fatalf("the test's shape isn't right: %v", s)
				}
				if want && at != size {
					others++
				}
				if got := Right(s, at); got != want {
					t.Fatalf("Right(%v, %d) = %t", s, at, got)
				}
			}
			if s != kept {
				t.Fatalf("%v was changed to %v", kept, s)
			}
		}
		if size > 20 && others != 200*3 {
			t.Errorf("of %d bytes on all have 12 pulses, but %d shapes are right for another size", size, others)
		}
	})
}

// 19.1: of another size nothing is right, nor laid: not what has no pulses, though there are no bits, nor what has all.
func TestWrongSizes(t *testing.T) {
	h := byHand()
	list := []api.Shape{{}, {Side: api.Side{15, 15, 15, 15, 15, 15, 15, 15}}, {Side: api.Side{7: 16}}}
	for size := least; size <= greatest; size++ {
		list = append(list, h.lone(api.Side{}, size), h.lone(api.Side{9, 7, 5, 4, 3, 2, 1, 0}, size))
	}
	for _, s := range list {
		for _, size := range wrongSizes {
			if Right(s, size) {
				t.Errorf("Right(%v, %d)", s, size)
			}
			for _, frame := range append([]int{0, 7, frames - 1}, wrongFrames...) {
				noLay(t, Packet{Frame: frame, Shape: s}, size, api.ErrArg)
			}
		}
	}
}

// 19.1: frames' numbers 0 to 65535 are laid, and no others.
func TestFrames(t *testing.T) {
	h := byHand()
	sizes(t, func(t *testing.T, size int) {
		s := h.anyShape(numbers(uint64(size)), api.Side{3, 1, 4, 1, 5, 9, 2, 6}, size)
		for _, frame := range []int{0, 1, 2, 127, 128, 255, 256, 257, 32767, 32768, 65279, 65280, frames - 2, frames - 1} {
			p := Packet{Frame: frame, Shape: s}
			text := mustLay(t, p, size)
			if int(text[0])*256+int(text[1]) != frame {
				t.Errorf("%d is laid as %x", frame, text)
			}
			mustRead(t, text, p)
		}
		for _, frame := range wrongFrames {
			noLay(t, Packet{Frame: frame, Shape: s}, size, api.ErrRange)
		}
	})
	next := numbers(1)
	for frame := 0; frame < frames; frame += 13 {
		size := least + frame%13
		p := Packet{Frame: frame, Shape: h.anyShape(next, api.Side{}, size)}
		mustRead(t, mustLay(t, p, size), p)
	}
}

// 19.1: a step that isn't 0 to 15 is not right, at each place, whatever the pulses are.
func TestWrongSteps(t *testing.T) {
	h := byHand()
	sizes(t, func(t *testing.T, size int) {
		for at := range 8 {
			for step := range 16 {
				if !Right(h.lone(with(at, step), size), size) {
					t.Fatalf("the step %d at %d isn't right", step, at)
				}
			}
			for _, step := range wrongSteps {
				for _, like := range []int{0, 15, step & 15} { // the pulses are those that another step there has
					s := h.lone(with(at, like), size)
					s.Side[at] = step
					wrongShape(t, s, size)
				}
				wrongShape(t, api.Shape{Side: with(at, step)}, size)
			}
		}
		for _, step := range wrongSteps {
			s := h.lone(api.Side{}, size)
			s.Side = api.Side{step, step, step, step, step, step, step, step}
			wrongShape(t, s, size)
		}
	})
}

// 19.1: with a pulse more than chapter 18 gives, or one fewer, in each band and at each place of it, a shape isn't right.
func TestMoreAndFewer(t *testing.T) {
	h := byHand()
	sizes(t, func(t *testing.T, size int) {
		next := numbers(uint64(100 + size))
		for range 40 {
			s := h.anyShape(next, anySide(next), size)
			for b := range 8 {
				for at := range 4 {
					for _, by := range []int{-1, 1} { // away from 0, or nearer, as its sign is
						one := s
						one.Y[b][at] += by
						wrongShape(t, one, size)
						one.Y[b][at] = s.Y[b][at] + 2*by
						if count(one.Y[b]) != count(s.Y[b]) { // 1 may have become -1
							wrongShape(t, one, size)
						}
					}
				}
				none := s
				none.Y[b] = api.Pulses{}
				if count(s.Y[b]) > 0 {
					wrongShape(t, none, size)
				}
			}
		}
	})
}

// 19.1: a pulse that one band has more and another one fewer makes a shape that isn't right, too, nor do those of two bands changed about.
func TestMovedPulse(t *testing.T) {
	h := byHand()
	sizes(t, func(t *testing.T, size int) {
		next := numbers(uint64(200 + size))
		for range 20 {
			s := h.lone(anySide(next), size)
			for a := range 8 {
				for b := range 8 {
					if a == b {
						continue
					}
					one := s
					one.Y[a][3]++
					one.Y[b][3]--
					if one.Y[b][3] >= 0 {
						wrongShape(t, one, size)
					}
					one = s
					one.Y[a], one.Y[b] = s.Y[b], s.Y[a]
					if one != s {
						wrongShape(t, one, size)
					}
				}
			}
		}
	})
}

// 19.1: pulses that are the least or the greatest int, or many, so that their sum goes round to what a band has, aren't right.
func TestGreatPulses(t *testing.T) {
	h := byHand()
	wide := []int{math.MinInt, math.MinInt + 1, math.MaxInt, math.MaxInt - 1, 1 << 62, -1 << 62, 1 << 32, -1 << 32, 256, -256, 13, -13, 14, -14, 24, -24}
	sizes(t, func(t *testing.T, size int) {
		for _, side := range []api.Side{{}, {9, 7, 5, 4, 3, 2, 1, 0}, {7: 15}} {
			s := h.lone(side, size)
			for b := range 8 {
				k := s.Y[b][3]
				for _, x := range wide {
					for at := range 4 {
						one := s
						one.Y[b][at] = x
						wrongShape(t, one, size)
					}
					for _, y := range []api.Pulses{{x, x, 0, k}, {x, -x, 0, k}, {x, x, x, x}, {x, x, x, k}, {x + k, -x}, {k - x, x}} {
						one := s
						one.Y[b] = y
						wrongShape(t, one, size)
					}
				}
			}
		}
	})
}

// 19.1: of several errors the size's comes first, then the number's, then the shape's.
func TestFirstError(t *testing.T) {
	h := byHand()
	good := h.lone(api.Side{9, 7, 5, 4, 3, 2, 1, 0}, 20)
	for _, s := range []api.Shape{{}, {Side: api.Side{-1}}, {Side: api.Side{7: 16}}, {Y: [8]api.Pulses{{math.MinInt}}}} {
		for _, frame := range append([]int{0, 1, frames - 1}, wrongFrames...) {
			for _, size := range wrongSizes {
				noLay(t, Packet{Frame: frame, Shape: s}, size, api.ErrArg)
				noLay(t, Packet{Frame: frame, Shape: good}, size, api.ErrArg)
			}
		}
		for size := least; size <= greatest; size++ {
			for _, frame := range wrongFrames {
				noLay(t, Packet{Frame: frame, Shape: s}, size, api.ErrRange)
				noLay(t, Packet{Frame: frame, Shape: good}, size, api.ErrRange)
			}
			noLay(t, Packet{Shape: s}, size, api.ErrForm)
			if size != 20 {
				noLay(t, Packet{Shape: good}, size, api.ErrForm)
			}
		}
		mustLay(t, Packet{Shape: good}, 20)
	}
}

// 19.1 and 19.2: what hasn't 12 to 24 bytes isn't read, sealed or not, of no sound or any.
func TestReadWrongSizes(t *testing.T) {
	next := numbers(2)
	long := byHand().lay(byHand().anyPacket(next, 24), 24)
	for n := range 300 {
		if n >= least && n <= greatest {
			continue
		}
		noRead(t, strings.Repeat("\x00", n), api.ErrArg)
		noRead(t, strings.Repeat("\xff", n), api.ErrArg)
		noRead(t, anyBytes(next, n), api.ErrArg)
		noRead(t, (long + strings.Repeat("\x00", 300))[:n], api.ErrArg)
		if n >= 2 {
			noRead(t, sealed(strings.Repeat("\x00", n-2)), api.ErrArg)
			noRead(t, sealed(anyBytes(next, n-2)), api.ErrArg)
			noRead(t, sealed((long + strings.Repeat("\x00", 300))[:n-2]), api.ErrArg)
		}
	}
	for _, n := range []int{256 + 12, 65536 + 12, 1 << 20} {
		noRead(t, sealed(strings.Repeat("\x00", n-2)), api.ErrArg)
	}
}

// 19.1 and 19.2: with a byte more or fewer a packet is read as another size's, and so mostly isn't.
func TestReadOtherSize(t *testing.T) {
	h, next := byHand(), numbers(3)
	for range 40 {
		for size := least; size <= greatest; size++ {
			s := h.lay(h.anyPacket(next, size), size)
			for _, x := range []string{s[1:], s[:size-1], s + "\x00", "\x00" + s, s + "\xff", s[:size-2] + "\x00" + s[size-2:], sealed(s), sealed(s[:size-3]), sealed(s[1 : size-2])} {
				asByHand(t, x)
			}
		}
	}
}

// 19.1, 19.2: what isn't sealed isn't read: with a bit changed, any of them, with two of them, and within 16 that stand one behind the other.
func TestChangedBits(t *testing.T) {
	h := byHand()
	sizes(t, func(t *testing.T, size int) {
		next := numbers(uint64(300 + size))
		p := h.anyPacket(next, size)
		s, bits := h.lay(p, size), 8*size
		mustRead(t, s, p)
		for a := range bits {
			one := changed(s, a, 1)
			noRead(t, one, api.ErrSum)
			for b := range a {
				noRead(t, changed(one, b, 1), api.ErrSum)
			}
		}
		for from := range bits - 15 {
			noRead(t, changed(s, from, 65535), api.ErrSum)
			for range 20 {
				noRead(t, changed(s, from, 1|uint32(next()%65536)), api.ErrSum)
			}
		}
		for _, from := range []int{0, int(next() % uint64(bits-15)), bits - 16 - 8, bits - 16} { // at the beginning, anywhere, across the seam to the seal, and in it
			for pattern := uint32(1); pattern < 65536; pattern += 10 {
				noRead(t, changed(s, from, pattern), api.ErrSum)
			}
		}
	})
}

// 19.1: with a sum that is another one nothing is read, though all else is right, nor is it, though nothing else is.
func TestSumFirst(t *testing.T) {
	h, next := byHand(), numbers(4)
	for size := least; size <= greatest; size++ {
		p := h.anyPacket(next, size)
		s := h.lay(p, size)
		for range 300 {
			x := s[:size-2] + anyBytes(next, 2)
			if x != s {
				noRead(t, x, api.ErrSum)
			}
		}
		l := h.fields(Packet{Shape: h.lone(api.Side{15, 15, 15, 15, 15, 15, 15, 15}, size)}, size)
		l[pulsesAt].x = 1<<l[pulsesAt].n - 1 // none of some counts' numbers, where those are fewer
		bad := sealed(laid(l))
		asByHand(t, bad)
		noRead(t, changed(bad, size*8-1, 1), api.ErrSum)
		noRead(t, changed(bad, 0, 1), api.ErrSum)
	}
}

// 19.1: any number, and any steps, laid by hand, are read, if the pulses are there and what is left is zero.
func TestHandLaidHead(t *testing.T) {
	h := byHand()
	sizes(t, func(t *testing.T, size int) {
		next := numbers(uint64(400 + size))
		l := h.fields(h.anyPacket(next, size), size)
		for _, frame := range []int{0, 1, 255, 256, 32767, 32768, frames - 1, int(next() % frames)} {
			l[frameAt].x = frame
			if !asByHand(t, sealed(laid(l))) {
				t.Fatalf("with the number %d it isn't read", frame)
			}
		}
		read, not := 0, 0
		for at := range 8 {
			for step := range 16 {
				one := slices.Clone(l)
				one[stepsAt+at].x = step
				if asByHand(t, sealed(laid(one))) { // other steps part the bits in another way
					read++
				} else {
					not++
				}
			}
		}
		if read == 0 || not == 0 && size < 21 {
			t.Errorf("with other steps %d are read, %d not", read, not)
		}
		for _, step := range []int{0, 7, 15} {
			s := api.Side{step, step, step, step, step, step, step, step}
			p := Packet{Frame: 77, Shape: h.lone(s, size)}
			mustRead(t, sealed(laid(h.fields(p, size))), p)
		}
	})
}

// withCount answers a packet whose band has so many pulses, and its size; 0 if there is none among many.
func (h *hand) withCount(next func() uint64, b, k int) (Packet, int) {
	for i := range 4000 {
		size := least + i%13
		side := anySide(next)
		if h.pulses(side, size)[b] == k {
			return Packet{Frame: int(next() % frames), Shape: h.anyShape(next, side, size)}, size
		}
	}
	return Packet{}, 0
}

// 19.1: a pulses' number just below how many there are is read; just as many, or more, up to the greatest that fits into its bits, are not: in each band, with each count of pulses that may be left with it.
func TestHandLaidPulses(t *testing.T) {
	h, next := byHand(), numbers(5)
	for b := range 8 {
		for _, k := range []int{0, 1, 2, 3, 4, 5, 7, 9, 11, 12} {
			p, size := h.withCount(next, b, k)
			if size == 0 {
				t.Fatalf("no packet with %d pulses in the band %d", k, b)
			}
			l := h.fields(p, size)
			there, fit := len(h.vectors[k]), 1<<l[pulsesAt+b].n
			for _, x := range []int{0, 1, there / 2, there - 2, there - 1, there, there + 1, (there + fit) / 2, fit - 2, fit - 1} {
				if x < 0 || x >= fit {
					continue
				}
				l[pulsesAt+b].x = x
				s := sealed(laid(l))
				if x >= there {
					noRead(t, s, api.ErrForm)
					continue
				}
				want := p
				want.Shape.Y[b] = h.vectors[k][x]
				mustRead(t, s, want)
			}
		}
	}
}

// 19.1: that all bands' numbers but one are there doesn't help, nor does it that what is left isn't zero either.
func TestManyWrongPulses(t *testing.T) {
	h := byHand()
	sizes(t, func(t *testing.T, size int) {
		next := numbers(uint64(500 + size))
		for range 30 {
			p := h.anyPacket(next, size)
			l := h.fields(p, size)
			wrong := false
			for b := range 8 {
				f := &l[pulsesAt+b]
				there := len(h.vectors[count(p.Shape.Y[b])])
				if next()%2 == 0 && there < 1<<f.n {
					f.x, wrong = there+int(next()%uint64(1<<f.n-there)), true
				}
			}
			if next()%2 == 0 && l[leftAt].n > 0 {
				l[leftAt].x, wrong = 1, true
			}
			if wrong {
				noRead(t, sealed(laid(l)), api.ErrForm)
			} else {
				mustRead(t, sealed(laid(l)), p)
			}
		}
	})
}

// 19.1: a one in any of the bits that are left, sealed anew, isn't read; nor are ones in several of them.
func TestBitsLeft(t *testing.T) {
	h := byHand()
	seen := map[int]int{} // how often so many were left
	sizes(t, func(t *testing.T, size int) {
		next := numbers(uint64(600 + size))
		for range 60 {
			p := h.anyPacket(next, size)
			l := h.fields(p, size)
			left := l[leftAt].n
			seen[left]++
			mustRead(t, sealed(laid(l)), p)
			for at := range left {
				l[leftAt].x = 1 << at
				noRead(t, sealed(laid(l)), api.ErrForm)
				l[leftAt].x = 1<<(at+1) - 1
				noRead(t, sealed(laid(l)), api.ErrForm)
				l[leftAt].x = 1<<left - 1<<at
				noRead(t, sealed(laid(l)), api.ErrForm)
			}
		}
	})
	for _, left := range []int{0, 1, 8, 16, 24} {
		if seen[left] == 0 {
			t.Errorf("no packet of which %d bits are left: %v", left, seen)
		}
	}
}

// 19.1 and 19.3: any bytes that are sealed are read as by the chapter's words, and what is read is laid as they are.
func TestReadByHand(t *testing.T) {
	h := byHand()
	sizes(t, func(t *testing.T, size int) {
		next, read := numbers(uint64(700+size)), 0
		for i := range 1500 {
			s := []byte(anyBytes(next, size-2))
			if i%2 == 0 { // as nearly none are read by chance where many bits are left
				for at := min(19, size-2); at < len(s); at++ {
					s[at] = 0
				}
			}
			if i%3 == 0 {
				for at := 2; at < 6; at++ {
					s[at] &= 0x33
				}
			}
			if asByHand(t, sealed(string(s))) {
				read++
			}
		}
		if read == 0 || read == 1500 {
			t.Errorf("%d of them are read", read)
		}
		for range 300 {
			asByHand(t, anyBytes(next, size))
		}
		s := h.lay(h.anyPacket(next, size), size)
		for at := range 8 * (size - 2) {
			asByHand(t, sealed(changed(s[:size-2], at, 1)))
		}
	})
}

// 19.3: what is laid is read as it was, and has as many bytes as its size.
func TestLaidIsRead(t *testing.T) {
	h := byHand()
	sizes(t, func(t *testing.T, size int) {
		next := numbers(uint64(800 + size))
		for range 500 {
			p := h.anyPacket(next, size)
			kept := p
			s, e := Lay(p, size)
			if e != api.OK || len(s) != size || p != kept {
				t.Fatalf("Lay(%v, %d) = %x, %d", p, size, s, e)
			}
			if q, e := Read(s); q != p || e != api.OK {
				t.Fatalf("Read(%x) = %v, %d, want %v", s, q, e, p)
			}
			if n, ok := Peek(s); n != p.Frame || !ok {
				t.Fatalf("Peek(%x) = %d, %t, want %d", s, n, ok, p.Frame)
			}
		}
	})
}

// 19.3: unlike packets of a size have unlike bytes, where they are unlike in nothing but a number's bit, a step or a vector, too.
func TestUnlike(t *testing.T) {
	h := byHand()
	sizes(t, func(t *testing.T, size int) {
		next, of := numbers(uint64(900+size)), map[string]Packet{}
		put := func(p Packet) {
			s := mustLay(t, p, size)
			if q, ok := of[s]; ok && q != p {
				t.Fatalf("%v and %v are laid as %x", p, q, s)
			}
			of[s] = p
		}
		for range 15 {
			p := h.anyPacket(next, size)
			put(p)
			for bit := range 16 {
				put(Packet{Frame: p.Frame ^ 1<<bit, Shape: p.Shape})
			}
			for b := range 8 {
				one := p
				for step := range 16 {
					side := p.Shape.Side
					side[b] = step
					one.Shape = h.anyShape(next, side, size)
					put(one)
				}
				one = p
				for range 10 {
					l := h.vectors[count(p.Shape.Y[b])]
					one.Shape.Y[b] = l[next()%uint64(len(l))]
					put(one)
				}
				for at := range 4 {
					one.Shape.Y[b] = p.Shape.Y[b]
					one.Shape.Y[b][at] = -one.Shape.Y[b][at]
					put(one)
				}
			}
		}
	})
}

// 19.3: likewise all vectors of a band, in the first one, the last one and one between.
func TestAllVectors(t *testing.T) {
	h := byHand()
	for _, x := range []struct{ b, size int }{{0, 24}, {3, 22}, {7, 21}} {
		s, of := h.lone(api.Side{5, 0, 5, 0, 5, 0, 5, 0}, x.size), map[string]bool{}
		for _, y := range h.vectors[12] {
			s.Y[x.b] = y
			p := Packet{Frame: 21, Shape: s}
			text, e := Lay(p, x.size)
			if e != api.OK || of[text] {
				t.Fatalf("Lay(%v, %d) = %x, %d", p, x.size, text, e)
			}
			of[text] = true
			if q, e := Read(text); q != p || e != api.OK {
				t.Fatalf("Read(%x) = %v, %d, want %v", text, q, e, p)
			}
		}
		if len(of) != 4672 {
			t.Errorf("%d packets", len(of))
		}
	}
}

// 19.3: a shape whose bands all have 12 pulses is right for several sizes; of each its bytes are others, and read as it.
func TestOneShapeManySizes(t *testing.T) {
	h, next, of := byHand(), numbers(6), map[string]int{}
	p := h.anyPacket(next, 21)
	for size := least; size <= greatest; size++ {
		if size < 21 {
			noLay(t, p, size, api.ErrForm)
			continue
		}
		s := mustLay(t, p, size)
		of[s] = size
		mustRead(t, s, p)
	}
	if len(of) != 4 {
		t.Errorf("%d of 4 are unlike", len(of))
	}
}

// 19.2: a packet's number is told where the packet can be read, and nothing where it can't.
func TestPeek(t *testing.T) {
	h := byHand()
	p := Packet{Frame: 513, Shape: h.lone(api.Side{9, 7, 5, 4, 3, 2, 1, 0}, 24)}
	s := mustLay(t, p, 24)
	if n, ok := Peek(s); n != 513 || !ok {
		t.Errorf("Peek = %d, %t", n, ok)
	}
	p.Frame = 0
	if n, ok := Peek(mustLay(t, p, 24)); n != 0 || !ok {
		t.Errorf("Peek of the number 0 is %d, %t", n, ok)
	}
	for _, x := range []string{"", "\x02", "\x02\x01", s[:11], s[:23], s + "\x00", changed(s, 191, 1), changed(s, 7, 1), sealed(s[:21] + "\x01"), sealed(s[:22] + "\x00")} {
		if n, ok := Peek(x); n != 0 || ok {
			t.Errorf("Peek(%x) = %d, %t", x, n, ok)
		}
	}
}

// The way of 19.1: a packet's numbers are handed on one by one, each with its bits.
func TestSplit(t *testing.T) {
	h := byHand()
	sizes(t, func(t *testing.T, size int) {
		p := h.anyPacket(numbers(uint64(1000+size)), size)
		var got []field
		split(p, func(x, n int) api.Errno {
			got = append(got, field{x, n})
			return api.OK
		})
		if want := h.fields(p, size)[:leftAt]; !slices.Equal(got, want) {
			t.Errorf("of %v %v, want %v", p, got, want)
		}
	})
}

// Rules 4 and 6: one call says nothing to another one, whether it is refused or not, and what comes in stays.
func TestTwice(t *testing.T) {
	type one struct {
		p    Packet
		size int
		s    string
	}
	h, next := byHand(), numbers(7)
	var list []one
	for i := range 300 {
		size := least + i%13
		p := h.anyPacket(next, size)
		list = append(list, one{p, size, mustLay(t, p, size)})
	}
	for i := len(list) - 1; i >= 0; i-- {
		x, kept := list[i], list[i]
		noLay(t, x.p, 25, api.ErrArg)
		noLay(t, Packet{Frame: -1, Shape: x.p.Shape}, x.size, api.ErrRange)
		noLay(t, Packet{Shape: api.Shape{Side: api.Side{16}}}, x.size, api.ErrForm)
		noRead(t, changed(x.s, int(next()%uint64(8*x.size)), 1), api.ErrSum)
		noRead(t, x.s[:11], api.ErrArg)
		Right(list[next()%300].p.Shape, x.size)
		if !Right(x.p.Shape, x.size) {
			t.Fatalf("Right(%v, %d) is false the second time", x.p.Shape, x.size)
		}
		if s := mustLay(t, x.p, x.size); s != x.s || x != kept {
			t.Fatalf("Lay(%v, %d) = %x, the first time %x", x.p, x.size, s, x.s)
		}
		mustRead(t, x.s, x.p)
	}
}
