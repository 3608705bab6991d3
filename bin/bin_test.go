package bin_test

import (
	"math"
	"math/big"
	"slices"
	"strings"
	"testing"

	"vinculum/api"
	"vinculum/bin"
)

// sizes are all that there are.
func sizes() []int { return []int{1, 2, 3, 4, -1, -2, -3, -4} }

// noSizes are ints beside the sizes, and the last ones of all.
func noSizes() []int {
	return []int{0, 5, -5, 6, -6, 8, -8, 256, -256, math.MaxInt32, math.MinInt32, math.MaxInt, math.MinInt, math.MaxInt - 1, math.MinInt + 1}
}

// width is how many bytes a size has.
func width(size int) int { return max(size, -size) }

// least and greatest are the numbers that the chapter's sizes end at, written out.
func least(size int) int {
	return map[int]int{1: 0, 2: 0, 3: 0, 4: 0, -1: -128, -2: -32768, -3: -8388608, -4: -2147483648}[size]
}

func greatest(size int) int {
	return map[int]int{1: 255, 2: 65535, 3: 16777215, 4: 4294967295, -1: 127, -2: 32767, -3: 8388607, -4: 2147483647}[size]
}

// numbers are some of a size: at its ends, at 0, and between.
func numbers(size int) []int {
	l := []int{least(size), greatest(size)}
	for _, n := range []int{0, 1, 2, 100, 127, 128, 200, 255, 256, 258, 32767, 32768, 65535, 65536, 1000000, 8388607, 8388608, 16777215, 16777216, 2147483647, 2147483648, 4294967294} {
		for _, v := range []int{n, -n, -n - 1} {
			if least(size) <= v && v <= greatest(size) {
				l = append(l, v)
			}
		}
	}
	return l
}

// read is the value of a field, worked out without bounds: of a signed one, 256 to the width less where its first bit is set.
func read(field string, size int) int {
	n := new(big.Int).SetBytes([]byte(field))
	if size < 0 && field[0] >= 128 {
		n.Sub(n, new(big.Int).Exp(big.NewInt(256), big.NewInt(int64(len(field))), nil))
	}
	return int(n.Int64())
}

// texts are of all lengths up to most, with bytes of all kinds; the same seed gives the same ones.
func texts(most, seed int) []string {
	bits := uint64(seed)
	next := func() byte {
		bits = bits*6364136223846793005 + 1442695040888963407
		switch b := byte(bits >> 40); bits >> 61 {
		case 0:
			return 0
		case 1:
			return 255
		case 2:
			return 128
		case 3:
			return 127
		default:
			return b
		}
	}
	l := []string{""}
	for n := 1; n <= most; n++ {
		b := make([]byte, n)
		for i := range b {
			b[i] = next()
		}
		l = append(l, string(b))
	}
	return l
}

func checkGet(t *testing.T, s string, at int, list []int, want []int, wantE api.Errno) {
	t.Helper()
	before := slices.Clone(list)
	got, e := bin.Get(s, at, list...)
	if !slices.Equal(got, want) || e != wantE {
		t.Errorf("P3.1: Get(%q, %d, %v) is %v, %d, not %v, %d", s, at, list, got, e, want, wantE)
	}
	if !slices.Equal(list, before) {
		t.Errorf("R2: Get changed its sizes from %v to %v", before, list)
	}
}

func TestGetReadsWhatIsWritten(t *testing.T) {
	s := "\x01\x02\xff\xfe\x80\x00\x00\x01\x7f\xff\xff\xff"
	for _, k := range []struct {
		at         int
		list, want []int
	}{
		{0, []int{2, -2}, []int{258, -2}},
		{0, []int{1, -1, 1, -1, 1, -1}, []int{1, 2, 255, -2, 128, 0}},
		{1, []int{3, -3, 4}, []int{196606, -8388608, 25165823}},
		{2, []int{-2, 3}, []int{-2, 8388608}},
		{4, []int{-4, -4}, []int{-2147483647, 2147483647}},
		{4, []int{4, 4}, []int{2147483649, 2147483647}},
		{9, []int{-3}, []int{-1}},
		{9, []int{3}, []int{16777215}},
		{11, []int{-1}, []int{-1}},
		{12, nil, nil},
	} {
		checkGet(t, s, k.at, k.list, k.want, api.OK)
	}
}

func TestGetReadsEverySizeAtEveryPlace(t *testing.T) {
	for _, s := range texts(12, 1) {
		for at := range len(s) + 3 {
			for _, a := range sizes() {
				if at+width(a) > len(s) {
					checkGet(t, s, at, []int{a}, nil, api.ErrMore)
					continue
				}
				mid := at + width(a)
				first := read(s[at:mid], a)
				checkGet(t, s, at, []int{a}, []int{first}, api.OK)
				for _, b := range sizes() {
					end := mid + width(b)
					if end > len(s) {
						checkGet(t, s, at, []int{a, b}, nil, api.ErrMore)
						continue
					}
					checkGet(t, s, at, []int{a, b}, []int{first, read(s[mid:end], b)}, api.OK)
				}
			}
		}
	}
}

func TestGetWithoutFieldsAsksThePlace(t *testing.T) {
	for _, s := range texts(5, 2) {
		for at := range len(s) + 1 {
			checkGet(t, s, at, nil, nil, api.OK)
			checkGet(t, s, at, []int{}, nil, api.OK)
		}
		for _, at := range []int{len(s) + 1, len(s) + 2, math.MaxInt32, 1 << 32, 1 << 62, math.MaxInt - 1, math.MaxInt} {
			checkGet(t, s, at, nil, nil, api.ErrMore)
		}
		for _, at := range []int{-1, -2, math.MinInt32, math.MinInt} {
			checkGet(t, s, at, nil, nil, api.ErrArg)
		}
	}
}

func TestGetTellsPlacesThatAreNone(t *testing.T) {
	s := "\x01\x02\x03\x04\x05\x06\x07\x08"
	for _, size := range sizes() {
		for _, at := range []int{-1, -2, -8, -9, math.MinInt32, math.MinInt + 1, math.MinInt} {
			checkGet(t, s, at, []int{size}, nil, api.ErrArg)
		}
		for _, at := range []int{8, 9, 100, math.MaxInt32, 1 << 32, 1 << 62, math.MaxInt - 4, math.MaxInt - 3, math.MaxInt - 1, math.MaxInt} {
			checkGet(t, s, at, []int{size}, nil, api.ErrMore)
		}
		checkGet(t, s, 9-width(size), []int{size}, nil, api.ErrMore)
		checkGet(t, "", 0, []int{size}, nil, api.ErrMore)
	}
	checkGet(t, s, 0, []int{4, 4, 1}, nil, api.ErrMore)
	checkGet(t, s, 1, []int{1, -2, 3, -4}, nil, api.ErrMore)
	checkGet(t, s, math.MaxInt, []int{1, 2, 3, 4}, nil, api.ErrMore)
}

func TestGetTellsWhatIsNoSize(t *testing.T) {
	s := "\x01\x02\x03\x04\x05\x06\x07\x08\x09\x0a"
	for _, wrong := range noSizes() {
		for _, list := range [][]int{{wrong}, {wrong, 1}, {1, wrong}, {2, -3, wrong}, {1, wrong, 1}} {
			// ErrArg is named ahead of ErrMore, wherever the bytes end.
			for _, at := range []int{0, 3, 9, 10, 11, math.MaxInt, -1, math.MinInt} {
				checkGet(t, s, at, list, nil, api.ErrArg)
				checkGet(t, "", at, list, nil, api.ErrArg)
			}
		}
	}
}

func TestGetReadsManyFields(t *testing.T) {
	all := strings.Repeat("\xff\xfe", 100000)
	list := slices.Repeat([]int{-2, 2}, 50000)
	checkGet(t, all, 0, list, slices.Repeat([]int{-2, 65534}, 50000), api.OK)
	if got, e := bin.Get(all, 1, list...); len(got) != 0 || e != api.ErrMore {
		t.Errorf("P3.1: the last of many fields is missing, but Get answers %d values, %d", len(got), e)
	}
}

func checkPut(t *testing.T, list, values []int, want string, wantE api.Errno) {
	t.Helper()
	listBefore, valuesBefore := slices.Clone(list), slices.Clone(values)
	got, e := bin.Put(list, values)
	if got != want || e != wantE {
		t.Errorf("P3.2: Put(%v, %v) is %q, %d, not %q, %d", list, values, got, e, want, wantE)
	}
	if !slices.Equal(list, listBefore) || !slices.Equal(values, valuesBefore) {
		t.Errorf("R2: Put changed its lists from %v, %v to %v, %v", listBefore, valuesBefore, list, values)
	}
}

func TestPutWritesBigEndian(t *testing.T) {
	for _, k := range []struct {
		list, values []int
		want         string
	}{
		{nil, nil, ""},
		{[]int{}, nil, ""},
		{[]int{2, -2}, []int{258, -2}, "\x01\x02\xff\xfe"},
		{[]int{1, 2, 3, 4}, []int{1, 0x203, 0x40506, 0x708090a}, "\x01\x02\x03\x04\x05\x06\x07\x08\x09\x0a"},
		{[]int{-1, -2, -3, -4}, []int{-1, -2, -3, -4}, "\xff\xff\xfe\xff\xff\xfd\xff\xff\xff\xfc"},
		{[]int{-1, -2, -3, -4}, []int{-128, -32768, -8388608, -2147483648}, "\x80\x80\x00\x80\x00\x00\x80\x00\x00\x00"},
		{[]int{-1, -2, -3, -4}, []int{127, 32767, 8388607, 2147483647}, "\x7f\x7f\xff\x7f\xff\xff\x7f\xff\xff\xff"},
		{[]int{1, 2, 3, 4}, []int{255, 65535, 16777215, 4294967295}, "\xff\xff\xff\xff\xff\xff\xff\xff\xff\xff"},
		{[]int{4, 3, 2, 1}, []int{0, 0, 0, 0}, "\x00\x00\x00\x00\x00\x00\x00\x00\x00\x00"},
	} {
		checkPut(t, k.list, k.values, k.want, api.OK)
	}
}

func TestPutTellsWhatDoesNotFit(t *testing.T) {
	for _, size := range sizes() {
		for _, wrong := range []int{least(size) - 1, greatest(size) + 1, least(size) - 256, greatest(size) + 256, 1 << 32, -1 << 32, 1<<32 + 1, 1 << 40, math.MaxInt, math.MinInt, math.MaxInt - 1, math.MinInt + 1} {
			checkPut(t, []int{size}, []int{wrong}, "", api.ErrOver)
			checkPut(t, []int{1, size}, []int{7, wrong}, "", api.ErrOver)
			checkPut(t, []int{size, -2}, []int{wrong, 7}, "", api.ErrOver)
			checkPut(t, []int{size, size}, []int{wrong, wrong}, "", api.ErrOver)
		}
		for _, right := range []int{least(size), least(size) + 1, greatest(size) - 1, greatest(size)} {
			if s, e := bin.Put([]int{size}, []int{right}); len(s) != width(size) || e != api.OK {
				t.Errorf("P3.2: Put of %d by the size %d is %q, %d", right, size, s, e)
			}
		}
	}
}

func TestPutTellsListsThatAreWrong(t *testing.T) {
	for _, k := range [][2][]int{
		{{1}, nil}, {nil, {1}}, {{1, 1}, {1}}, {{1}, {1, 1}}, {{-2, 3, 4}, {0, 0}}, {{-2, 3}, {0, 0, 0}},
		// ErrArg is named ahead of ErrOver.
		{{1}, {256, 0}}, {{1, 1}, {-1}}, {{-1}, {math.MaxInt, math.MinInt}},
	} {
		checkPut(t, k[0], k[1], "", api.ErrArg)
	}
	for _, wrong := range noSizes() {
		checkPut(t, []int{wrong}, []int{0}, "", api.ErrArg)
		checkPut(t, []int{1, wrong}, []int{0, 0}, "", api.ErrArg)
		checkPut(t, []int{wrong, 1}, []int{0, 0}, "", api.ErrArg)
		checkPut(t, []int{1, wrong}, []int{256, 0}, "", api.ErrArg)
		checkPut(t, []int{wrong}, nil, "", api.ErrArg)
		checkPut(t, []int{wrong}, []int{math.MaxInt}, "", api.ErrArg)
	}
}

func checkPiece(t *testing.T, s string, at, n int, want string, wantE api.Errno) {
	t.Helper()
	if got, e := bin.Piece(s, at, n); got != want || e != wantE {
		t.Errorf("P3.3: Piece(%q, %d, %d) is %q, %d, not %q, %d", s, at, n, got, e, want, wantE)
	}
}

func TestPieceCutsBytes(t *testing.T) {
	for _, s := range texts(9, 3) {
		for at := range len(s) + 4 {
			for n := range len(s) + 4 {
				if at+n > len(s) {
					checkPiece(t, s, at, n, "", api.ErrMore)
				} else {
					checkPiece(t, s, at, n, s[at:at+n], api.OK)
				}
			}
		}
	}
	checkPiece(t, "é", 1, 1, "\xa9", api.OK)
}

func TestPieceTellsWhatIsWrong(t *testing.T) {
	great := []int{6, 7, math.MaxInt32, 1 << 32, 1 << 62, math.MaxInt - 5, math.MaxInt - 1, math.MaxInt}
	below := []int{-1, -2, -5, math.MinInt32, math.MinInt + 1, math.MinInt}
	for _, n := range great {
		for at := range 6 {
			checkPiece(t, "hello", at, n, "", api.ErrMore)
			checkPiece(t, "hello", n, at, "", api.ErrMore)
		}
		for _, at := range great {
			checkPiece(t, "hello", at, n, "", api.ErrMore)
		}
	}
	for _, n := range below {
		for at := range 7 {
			checkPiece(t, "hello", at, n, "", api.ErrArg)
			checkPiece(t, "hello", n, at, "", api.ErrArg)
		}
		for _, at := range slices.Concat(great, below) {
			checkPiece(t, "hello", at, n, "", api.ErrArg)
			checkPiece(t, "hello", n, at, "", api.ErrArg)
		}
	}
}

// summed is the sum worked out without bounds, and brought below 2^32 behind.
func summed(s string) int {
	for len(s)%4 != 0 {
		s += "\x00"
	}
	sum := new(big.Int)
	for ; s != ""; s = s[4:] {
		sum.Add(sum, new(big.Int).SetBytes([]byte(s[:4])))
	}
	return int(sum.Mod(sum, big.NewInt(1<<32)).Int64())
}

func TestSumAddsAll(t *testing.T) {
	for s, want := range map[string]int{
		"":                                 0,
		"\x00":                             0,
		"\x01":                             16777216,
		"\x01\x02":                         16908288,
		"\x01\x02\x03":                     16909056,
		"\x01\x02\x03\x04":                 16909060,
		"\x01\x00\x00\x00\x02":             50331648,
		"\xff\xff\xff\xff":                 4294967295,
		"\xff\xff\xff\xff\x00\x00\x00\x01": 0,
		"\xff\xff\xff\xff\x00\x00\x00\x02": 1,
		"\xff\xff\xff\xff\xff\xff\xff\xff": 4294967294,
		"\x80\x00\x00\x00\x80":             0,
		"\x80\x00\x00\x00\x80\x00\x00\x07": 7,
	} {
		if got := bin.Sum(s); got != want {
			t.Errorf("P3.4: Sum(%q) is %d, not %d", s, got, want)
		}
	}
	for seed := range 20 {
		for _, s := range texts(70, seed) {
			if got := bin.Sum(s); got != summed(s) {
				t.Errorf("P3.4: Sum(%q) is %d, not %d", s, got, summed(s))
			}
		}
	}
	many := strings.Repeat("\xff", 4*100000)
	if got := bin.Sum(many); got != summed(many) {
		t.Errorf("P3.4: Sum of many is %d, not %d", got, summed(many))
	}
}

func TestPadAppendsTheLeast(t *testing.T) {
	for _, s := range texts(130, 4) {
		for n := 1; n <= 64; n++ {
			want := s
			for len(want)%n != 0 {
				want += "\x00"
			}
			if got, e := bin.Pad(s, n); got != want || e != api.OK {
				t.Errorf("P3.4: Pad(%q, %d) is %q, %d, not %q", s, n, got, e, want)
			}
		}
	}
}

func TestPadTellsWhatIsWrong(t *testing.T) {
	for _, n := range []int{0, -1, -4, 65, 66, 128, math.MaxInt32, math.MinInt32, math.MaxInt, math.MinInt} {
		for _, s := range []string{"", "a", "abcd", strings.Repeat("x", 65)} {
			if got, e := bin.Pad(s, n); got != "" || e != api.ErrArg {
				t.Errorf("P3.4: Pad(%q, %d) is %q, %d, not ErrArg", s, n, got, e)
			}
		}
	}
}

func TestWhatPutWritesGetReads(t *testing.T) {
	around := []string{"", "\x00", "\xff", "\x80\x01", "\xff\xff\xff", "\x00\x00\x00\x00", "before and behind"}
	check := func(list, values []int) {
		t.Helper()
		s, e := bin.Put(list, values)
		if e != api.OK {
			t.Fatalf("P3.5: Put(%v, %v) is %d", list, values, e)
		}
		for _, before := range around {
			for _, behind := range around {
				if got, e := bin.Get(before+s+behind, len(before), list...); !slices.Equal(got, values) || e != api.OK {
					t.Errorf("P3.5: Put(%v, %v) is read as %v, %d behind %q and ahead of %q", list, values, got, e, before, behind)
				}
			}
		}
	}
	check(nil, nil)
	for _, a := range sizes() {
		for _, v := range numbers(a) {
			check([]int{a}, []int{v})
			for _, b := range sizes() {
				check([]int{a, b}, []int{v, greatest(b)})
				check([]int{b, a, b}, []int{least(b), v, 0})
			}
		}
	}
}

func TestListsBehindEachOtherAreOne(t *testing.T) {
	lists := [][]int{nil, {1}, {-1}, {4}, {-4}, {2, 3}, {-2, -3}, {1, -2, 3, -4}, {-4, 4, -3}}
	for _, s := range texts(40, 5)[30:] {
		for at := range 4 {
			for _, a := range lists {
				for _, b := range lists {
					first, e1 := bin.Get(s, at, a...)
					mid := at
					for _, size := range a {
						mid += width(size)
					}
					second, e2 := bin.Get(s, mid, b...)
					both, e3 := bin.Get(s, at, slices.Concat(a, b)...)
					if e1 != api.OK || e2 != api.OK || e3 != api.OK || !slices.Equal(both, slices.Concat(first, second)) {
						t.Errorf("P3.5: %v and %v of %q at %d are %v (%d) and %v (%d), but %v (%d) at once", a, b, s, at, first, e1, second, e2, both, e3)
					}
				}
			}
		}
	}
}

func TestPadDoesNotChangeSum(t *testing.T) {
	for _, s := range texts(70, 6) {
		for _, n := range []int{1, 2, 4} {
			padded, e := bin.Pad(s, n)
			if e != api.OK || bin.Sum(padded) != bin.Sum(s) {
				t.Errorf("P3.5: the sum of %q is %d, padded to %d it is %d (%d)", s, bin.Sum(s), n, bin.Sum(padded), e)
			}
		}
	}
}

func TestGetAnswersNewMemory(t *testing.T) {
	list := []int{1, 1}
	first, _ := bin.Get("\x01\x02", 0, list...)
	second, _ := bin.Get("\x01\x02", 0, list...)
	first[0] = 9
	if !slices.Equal(list, []int{1, 1}) || !slices.Equal(second, []int{1, 2}) {
		t.Errorf("R2: a change of one answer is seen in %v and %v", list, second)
	}
}
