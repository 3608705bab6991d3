package glyf_test

import (
	"math"
	"slices"
	"strings"
	"testing"

	"vinculum/api"
	"vinculum/glyf"
)

// far are numbers that no extent's number, count or offset reaches.
var far = []int{math.MinInt, math.MinInt + 1, math.MinInt32, -1 << 20, 1 << 20, math.MaxInt32, 1 << 32, 1<<32 + 1, 1 << 62, 1<<62 + 1, math.MaxInt - 1, math.MaxInt}

// forms are the two of offsets.
var forms = []bool{false, true}

// pair is a number's two bytes, whatever its sign.
func pair(n int) string { return string([]byte{byte(n >> 8), byte(n)}) }

// offset is the bytes of one; a short one is half of it.
func offset(n int, long bool) string {
	if long {
		return string([]byte{byte(n >> 24), byte(n >> 16), byte(n >> 8), byte(n)})
	}
	return pair(n / 2)
}

// loca is a table of offsets.
func loca(long bool, l ...int) string {
	var b strings.Builder
	for _, n := range l {
		b.WriteString(offset(n, long))
	}
	return b.String()
}

// outline is ten bytes of one with an extent; the first two are ignored.
func outline(x api.Extent) string {
	return "\xab\xcd" + pair(x.XMin) + pair(x.YMin) + pair(x.XMax) + pair(x.YMax)
}

// isRight is by the words of the chapter's Terms.
func isRight(x api.Extent) bool {
	if x.XMin == 0 && x.YMin == 0 && x.XMax == 0 && x.YMax == 0 {
		return true
	}
	for _, n := range []int{x.XMin, x.YMin, x.XMax, x.YMax} {
		if n < -32768 || n > 32767 {
			return false
		}
	}
	return x.Any && !(x.XMin > x.XMax) && !(x.YMin > x.YMax)
}

// model reads tables by the words of P7.2, one after the other.
func model(loca, glyf string, glyphs int, long bool) ([]api.Extent, api.Errno) {
	if !(1 <= glyphs && glyphs <= 65535) {
		return nil, api.ErrArg
	}
	width := 2
	if long {
		width = 4
	}
	if len(loca) < width*(glyphs+1) {
		return nil, api.ErrMore
	}
	place := func(i int) int {
		n := int(loca[width*i])*256 + int(loca[width*i+1])
		if !long {
			return 2 * n
		}
		return n*65536 + int(loca[width*i+2])*256 + int(loca[width*i+3])
	}
	var l []api.Extent
	for i := range glyphs {
		if place(i+1) < place(i) {
			return nil, api.ErrForm
		}
		if place(i+1) > len(glyf) {
			return nil, api.ErrMore
		}
		bytes := glyf[place(i):place(i+1)]
		if bytes == "" {
			l = append(l, api.Extent{})
			continue
		}
		if len(bytes) < 10 {
			return nil, api.ErrMore
		}
		signed := func(at int) int { return int(int16(bytes[at])<<8 | int16(bytes[at+1])) }
		x := api.Extent{Any: true, XMin: signed(2), YMin: signed(4), XMax: signed(6), YMax: signed(8)}
		if !isRight(x) {
			return nil, api.ErrForm
		}
		l = append(l, x)
	}
	return l, api.OK
}

// modelPut is by the words of P7.3, with its numbers.
func modelPut(l []api.Extent, long bool) (string, string, api.Errno) {
	if len(l) == 0 || len(l) > 65535 || slices.ContainsFunc(l, func(x api.Extent) bool { return !isRight(x) }) {
		return "", "", api.ErrArg
	}
	var places, outlines strings.Builder
	places.WriteString(offset(0, long))
	count := 0
	for _, x := range l {
		if x.Any {
			count++
			outlines.WriteString("\x00\x00" + outline(x)[2:] + "\x00\x00")
		}
		places.WriteString(offset(12*count, long))
	}
	if !long && count > 10922 {
		return "", "", api.ErrLong
	}
	return places.String(), outlines.String(), api.OK
}

// source gives numbers below a bound; the same seed gives the same ones.
func source(seed int) func(int) int {
	bits := uint64(seed)*2862933555777941757 + 3037000493
	return func(bound int) int {
		bits = bits*6364136223846793005 + 1442695040888963407
		return int((bits >> 33) % uint64(bound))
	}
}

// someExtent is a valid one, at times without an outline, and at times with one of no width or no height.
func someExtent(next func(int) int) api.Extent {
	if next(4) == 0 {
		return api.Extent{}
	}
	number := func() int {
		return []int{-32768, -32767, -256, -1, 0, 1, 255, 256, 32766, 32767, next(65536) - 32768, next(65536) - 32768}[next(12)]
	}
	a, b, c, d := number(), number(), number(), number()
	return api.Extent{Any: true, XMin: min(a, b), YMin: min(c, d), XMax: max(a, b), YMax: max(c, d)}
}

// some is a list that Put takes, with offsets of any size.
func some(next func(int) int, n int) []api.Extent {
	l := make([]api.Extent, n)
	for i := range l {
		l[i] = someExtent(next)
	}
	return l
}

// someTables are tables of n glyphs of all kinds of lengths: most are right, and some are not.
func someTables(next func(int) int, n int, long bool) (string, string) {
	var outlines strings.Builder
	places := []int{0}
	for range n {
		if x := someExtent(next); x.Any {
			if next(30) == 0 {
				x.XMax, x.YMin = x.XMin, x.YMax
				x.YMin += next(3) - 1
			}
			outlines.WriteString(outline(x)[:10-next(40)/38])
			outlines.WriteString(strings.Repeat("\x77", next(5)))
			if outlines.Len()%2 == 1 {
				outlines.WriteString("\xff")
			}
		}
		places = append(places, outlines.Len())
	}
	if next(5) == 0 {
		places[next(n+1)] += 2*next(20) - 20
	}
	for i := range places {
		places[i] = max(places[i], 0)
	}
	s := outlines.String()
	if next(8) == 0 {
		s = s[:next(len(s)+1)]
	}
	return loca(long, places...), s + strings.Repeat("\x55", next(2)*next(10))
}

// wrong are extents that are not valid.
func wrong() []api.Extent {
	l := []api.Extent{
		{Any: true, XMin: 1},
		{Any: true, YMin: 1},
		{Any: true, XMax: -1},
		{Any: true, YMax: -1},
		{Any: true, XMin: 32767, XMax: 32766},
		{Any: true, YMin: -32767, YMax: -32768},
	}
	for _, n := range append([]int{-65536, -32769, 32768, 65535, 65536}, far...) {
		l = append(l, api.Extent{Any: true, XMin: n, XMax: n}, api.Extent{Any: true, YMin: n, YMax: n})
		if n < 0 {
			l = append(l, api.Extent{Any: true, XMin: n}, api.Extent{Any: true, YMin: n})
		} else {
			l = append(l, api.Extent{Any: true, XMax: n}, api.Extent{Any: true, YMax: n})
		}
	}
	for _, n := range append([]int{-32769, -32768, -1, 1, 32767, 32768}, far...) {
		l = append(l, api.Extent{XMin: n}, api.Extent{YMin: n}, api.Extent{XMax: n}, api.Extent{YMax: n}, api.Extent{XMin: n, YMin: n, XMax: n, YMax: n})
	}
	return l
}

func shortList[T any](l []T) []T { return l[:min(len(l), 20)] }

func shortText(s string) string { return s[:min(len(s), 60)] }

func checkIs(t *testing.T, x api.Extent, want bool) {
	t.Helper()
	if glyf.Is(x) != want {
		t.Errorf("P7.1: Is(%+v) is %v", x, !want)
	}
}

func checkGet(t *testing.T, loca, outlines string, glyphs int, long bool, want []api.Extent, wantE api.Errno) {
	t.Helper()
	l, e := glyf.Get(loca, outlines, glyphs, long)
	if !slices.Equal(l, want) || e != wantE {
		t.Errorf("P7.2: Get(%q, of %d bytes, %q, of %d bytes, %d, %v) is %v, of %d, %d, not %v, of %d, %d", shortText(loca), len(loca), shortText(outlines), len(outlines), glyphs, long, shortList(l), len(l), e, shortList(want), len(want), wantE)
	}
}

// checkModel holds Get against the model.
func checkModel(t *testing.T, loca, outlines string, glyphs int, long bool) {
	t.Helper()
	want, e := model(loca, outlines, glyphs, long)
	checkGet(t, loca, outlines, glyphs, long, want, e)
}

func checkPut(t *testing.T, l []api.Extent, long bool, wantLoca, wantGlyf string, wantE api.Errno) {
	t.Helper()
	before := slices.Clone(l)
	places, outlines, e := glyf.Put(l, long)
	if places != wantLoca || outlines != wantGlyf || e != wantE {
		t.Errorf("P7.3: Put(%v, of %d, %v) is %q, of %d bytes, %q, of %d bytes, %d, not %q, of %d, %q, of %d, %d", shortList(l), len(l), long, shortText(places), len(places), shortText(outlines), len(outlines), e, shortText(wantLoca), len(wantLoca), shortText(wantGlyf), len(wantGlyf), wantE)
	}
	if !slices.Equal(l, before) {
		t.Errorf("R2: Put changed its extents from %v to %v", shortList(before), shortList(l))
	}
}

// checkModelPut holds Put against the model, with long and with short offsets.
func checkModelPut(t *testing.T, l []api.Extent) {
	t.Helper()
	for _, long := range forms {
		places, outlines, e := modelPut(l, long)
		checkPut(t, l, long, places, outlines, e)
	}
}

func checkHigh(t *testing.T, h api.Head, l []api.Extent, g, wantHeight, wantDepth int, wantE api.Errno) {
	t.Helper()
	before := slices.Clone(l)
	height, depth, e := glyf.High(h, l, g)
	if height != wantHeight || depth != wantDepth || e != wantE {
		t.Errorf("P7.4: High(%+v, %v, of %d, %d) is %d, %d, %d, not %d, %d, %d", h, shortList(l), len(l), g, height, depth, e, wantHeight, wantDepth, wantE)
	}
	if !slices.Equal(l, before) {
		t.Errorf("R2: High changed its extents from %v to %v", shortList(before), shortList(l))
	}
}

func TestIsOfNumbersAtTheLimits(t *testing.T) {
	edges := []int{-32769, -32768, -32767, -1, 0, 1, 32766, 32767, 32768}
	for _, a := range edges {
		for _, b := range edges {
			for _, c := range edges {
				for _, d := range edges {
					for _, has := range forms {
						x := api.Extent{Any: has, XMin: a, YMin: b, XMax: c, YMax: d}
						checkIs(t, x, isRight(x))
					}
				}
			}
		}
	}
}

func TestIsOfEachNumberAlone(t *testing.T) {
	for _, k := range []struct {
		x    api.Extent
		want bool
	}{
		{api.Extent{}, true},
		{api.Extent{Any: true}, true},
		{api.Extent{Any: true, XMin: -32768}, true},
		{api.Extent{Any: true, XMin: -32769}, false},
		{api.Extent{Any: true, YMin: -32768}, true},
		{api.Extent{Any: true, YMin: -32769}, false},
		{api.Extent{Any: true, XMax: 32767}, true},
		{api.Extent{Any: true, XMax: 32768}, false},
		{api.Extent{Any: true, YMax: 32767}, true},
		{api.Extent{Any: true, YMax: 32768}, false},
		{api.Extent{Any: true, XMin: 32767, XMax: 32767}, true},
		{api.Extent{Any: true, XMin: 32768, XMax: 32768}, false},
		{api.Extent{Any: true, YMin: 32767, YMax: 32767}, true},
		{api.Extent{Any: true, YMin: 32768, YMax: 32768}, false},
		{api.Extent{Any: true, XMin: -32768, XMax: -32768}, true},
		{api.Extent{Any: true, XMin: -32769, XMax: -32769}, false},
		{api.Extent{Any: true, YMin: -32768, YMax: -32768}, true},
		{api.Extent{Any: true, YMin: -32769, YMax: -32769}, false},
		{api.Extent{Any: true, XMin: -32768, YMin: -32768, XMax: 32767, YMax: 32767}, true},
		{api.Extent{XMin: -1, YMin: -1, XMax: 1, YMax: 1}, false},
		{api.Extent{XMin: 1}, false},
		{api.Extent{YMin: 1}, false},
		{api.Extent{XMax: 1}, false},
		{api.Extent{YMax: 1}, false},
	} {
		checkIs(t, k.x, k.want)
	}
	for _, x := range wrong() {
		checkIs(t, x, false)
	}
}

func TestIsOfNumbersOneBelowJustAsGreatAndOneAbove(t *testing.T) {
	for _, n := range []int{-32767, -257, -256, -1, 0, 1, 255, 256, 32766} {
		checkIs(t, api.Extent{Any: true, XMin: n - 1, XMax: n}, true)
		checkIs(t, api.Extent{Any: true, XMin: n, XMax: n}, true)
		checkIs(t, api.Extent{Any: true, XMin: n + 1, XMax: n}, false)
		checkIs(t, api.Extent{Any: true, YMin: n - 1, YMax: n}, true)
		checkIs(t, api.Extent{Any: true, YMin: n, YMax: n}, true)
		checkIs(t, api.Extent{Any: true, YMin: n + 1, YMax: n}, false)
	}
}

func TestGetReadsWhatIsWritten(t *testing.T) {
	x := api.Extent{Any: true, XMin: -1, YMin: -2, XMax: 258, YMax: 32767}
	y := api.Extent{Any: true, XMin: -32768, YMin: 3, XMax: -32768, YMax: 4}
	outlines := outline(x) + outline(y) + "\x01\x02"
	for _, long := range forms {
		checkGet(t, loca(long, 0, 10), outlines, 1, long, []api.Extent{x}, api.OK)
		checkGet(t, loca(long, 10, 20), outlines, 1, long, []api.Extent{y}, api.OK)
		checkGet(t, loca(long, 10, 22), outlines, 1, long, []api.Extent{y}, api.OK)
		checkGet(t, loca(long, 0, 20), outlines, 1, long, []api.Extent{x}, api.OK)
		checkGet(t, loca(long, 0, 10, 20), outlines, 2, long, []api.Extent{x, y}, api.OK)
		checkGet(t, loca(long, 0, 0, 10, 10, 10, 22, 22), outlines, 6, long, []api.Extent{{}, x, {}, {}, y, {}}, api.OK)
		checkGet(t, loca(long, 22, 22, 22), outlines, 2, long, []api.Extent{{}, {}}, api.OK)
		checkGet(t, loca(long, 0, 0), "", 1, long, []api.Extent{{}}, api.OK)
	}
	// Long offsets may be odd, and the numbers stand where the glyph's bytes begin.
	checkGet(t, loca(true, 0, 10, 10, 21), outline(x)+"\x99"+outline(y), 3, true, []api.Extent{x, {}, {Any: true, XMin: -12928, XMax: 896}}, api.OK)
	checkGet(t, loca(true, 11, 21), outline(x)+"\x99"+outline(y), 1, true, []api.Extent{y}, api.OK)
}

func TestGetReadsEachNumberThroughAllItsValues(t *testing.T) {
	places := loca(true, 0, 10)
	for n := -32768; n <= 32767; n++ {
		for _, x := range []api.Extent{
			{Any: true, XMin: n, YMin: -5, XMax: 32767, YMax: 6},
			{Any: true, XMin: -5, YMin: n, XMax: 6, YMax: 32767},
			{Any: true, XMin: -32768, YMin: -5, XMax: n, YMax: 6},
			{Any: true, XMin: -5, YMin: -32768, XMax: 6, YMax: n},
		} {
			checkGet(t, places, outline(x), 1, true, []api.Extent{x}, api.OK)
		}
	}
}

func TestGetTellsExtentsThatAreNotValid(t *testing.T) {
	edges := []int{-32768, -32767, -256, -1, 0, 1, 255, 32766, 32767}
	for _, a := range edges {
		for _, b := range edges {
			for _, c := range edges {
				for _, d := range edges {
					x := api.Extent{Any: true, XMin: a, YMin: b, XMax: c, YMax: d}
					for _, long := range forms {
						if a <= c && b <= d {
							checkGet(t, loca(long, 0, 10), outline(x), 1, long, []api.Extent{x}, api.OK)
						} else {
							checkGet(t, loca(long, 0, 10), outline(x), 1, long, nil, api.ErrForm)
						}
					}
				}
			}
		}
	}
}

func TestGetReadsOffsetsAsTheyAreWritten(t *testing.T) {
	x := api.Extent{Any: true, XMin: 1, YMin: 2, XMax: 3, YMax: 4}
	// The same bytes are 65546 as a long offset, and twice 1 and twice 10 as short ones.
	outlines := strings.Repeat("\x66", 65536) + outline(x) + strings.Repeat("\x66", 200000)
	checkGet(t, "\x00\x01\x00\x00\x00\x01\x00\x0a", outlines, 1, true, []api.Extent{x}, api.OK)
	checkGet(t, "\x00\x01\x00\x01\x00\x01\x00\x0a", outlines, 2, false, []api.Extent{{}, {}}, api.OK)
	checkGet(t, "\x80\x00\x80\x05", outlines, 1, false, []api.Extent{x}, api.OK)
	last := strings.Repeat("\x66", 131060) + outline(x)
	checkGet(t, "\xff\xfa\xff\xff", last, 1, false, []api.Extent{x}, api.OK)
	checkGet(t, "\xff\xfa\xff\xff", last[:131069], 1, false, nil, api.ErrMore)
	// A long offset's greatest is not below 0.
	checkGet(t, "\x00\x00\x00\x00\xff\xff\xff\xff", last, 1, true, nil, api.ErrMore)
	checkGet(t, "\x00\x00\x00\x00\x80\x00\x00\x00", last, 1, true, nil, api.ErrMore)
	checkGet(t, "\xff\xff\xff\xff\x00\x00\x00\x00", last, 1, true, nil, api.ErrForm)
	checkGet(t, "\xff\xff\xff\xff\xff\xff\xff\xff", last, 1, true, nil, api.ErrMore)
	great := strings.Repeat("\x66", 1<<24) + outline(x)
	checkGet(t, "\x01\x00\x00\x00\x01\x00\x00\x0a", great, 1, true, []api.Extent{x}, api.OK)
}

func TestGetAtEveryLengthOfLoca(t *testing.T) {
	x := api.Extent{Any: true, XMin: -7, YMin: -8, XMax: 9, YMax: 10}
	for _, long := range forms {
		for glyphs := 1; glyphs <= 6; glyphs++ {
			all := loca(long, 0, 10, 10, 20, 20, 20, 20)
			width := len(all) / 7
			for n := range len(all) + 1 {
				checkModel(t, all[:n], outline(x)+outline(x), glyphs, long)
				if _, e := glyf.Get(all[:n], outline(x)+outline(x), glyphs, long); (e == api.ErrMore) != (n < width*(glyphs+1)) {
					t.Errorf("P7.2: %d glyphs of %d bytes of loca (long: %v) are %d", glyphs, n, long, e)
				}
			}
		}
	}
}

func TestGetTellsCountsThatAreOutOfRange(t *testing.T) {
	zeros := strings.Repeat("\x00", 4*65538)
	for _, long := range forms {
		for _, s := range []string{"", "\x00", zeros} {
			for _, glyphs := range append([]int{-65536, -65535, -2, -1, 0, 65536, 65537, 131071}, far...) {
				checkGet(t, s, "", glyphs, long, nil, api.ErrArg)
			}
		}
		for _, glyphs := range []int{1, 2, 65534, 65535} {
			checkGet(t, "", "", glyphs, long, nil, api.ErrMore)
			checkGet(t, zeros, "", glyphs, long, make([]api.Extent, glyphs), api.OK)
		}
	}
}

func TestGetOfTheMostGlyphs(t *testing.T) {
	next := source(1)
	for _, long := range forms {
		width := 2
		if long {
			width = 4
		}
		l := some(next, 65535)
		if !long {
			for i := range l[10000:] {
				l[10000+i] = api.Extent{}
			}
			l[65534] = api.Extent{Any: true}
		}
		places, outlines, _ := modelPut(l, long)
		checkGet(t, places, outlines, 65535, long, l, api.OK)
		checkGet(t, places[:len(places)-1], outlines, 65535, long, nil, api.ErrMore)
		checkGet(t, places[:len(places)-width], outlines, 65535, long, nil, api.ErrMore)
		checkGet(t, places[:len(places)-width], outlines, 65534, long, l[:65534], api.OK)
		checkGet(t, places+places, outlines, 65535, long, l, api.OK)
		checkGet(t, places+places, outlines, 65536, long, nil, api.ErrArg)
		checkGet(t, places, outlines[:len(outlines)-1], 65535, long, nil, api.ErrMore)
		checkGet(t, places, outlines[:len(outlines)-1], 65534, long, l[:65534], api.OK)
	}
}

func TestGetOfGlyphsOfEveryLength(t *testing.T) {
	x := api.Extent{Any: true, XMin: -300, YMin: -2, XMax: 300, YMax: 1}
	bytes := outline(x) + "\xff\xff\xff\xff\xff\xff"
	for n := range 17 {
		want, e := []api.Extent{x}, api.OK
		switch {
		case n == 0:
			want = []api.Extent{{}}
		case n < 10:
			want, e = nil, api.ErrMore
		}
		checkGet(t, loca(true, 0, n), bytes, 1, true, want, e)
		checkGet(t, loca(true, 0, n), bytes[:n], 1, true, want, e)
		checkGet(t, loca(true, 3, 3+n), "abc"+bytes, 1, true, want, e)
		if n%2 == 0 {
			checkGet(t, loca(false, 0, n), bytes, 1, false, want, e)
			checkGet(t, loca(false, 4, 4+n), "abcd"+bytes[:n], 1, false, want, e)
		}
		if n > 0 {
			checkGet(t, loca(true, 0, n), bytes[:n-1], 1, true, nil, api.ErrMore)
		}
	}
}

func TestGetTellsOffsetsThatFallOrPassTheEnd(t *testing.T) {
	x := api.Extent{Any: true, XMin: 1, YMin: 2, XMax: 3, YMax: 4}
	bytes := outline(x) + outline(x)
	for _, long := range forms {
		checkGet(t, loca(long, 10, 8), bytes, 1, long, nil, api.ErrForm)
		checkGet(t, loca(long, 2, 0), bytes, 1, long, nil, api.ErrForm)
		checkGet(t, loca(long, 0, 20, 18), bytes, 2, long, nil, api.ErrForm)
		checkGet(t, loca(long, 0, 22), bytes, 1, long, nil, api.ErrMore)
		checkGet(t, loca(long, 20, 22), bytes, 1, long, nil, api.ErrMore)
		// No bytes, but behind the end.
		checkGet(t, loca(long, 22, 22), bytes, 1, long, nil, api.ErrMore)
		checkGet(t, loca(long, 20, 20), bytes, 1, long, []api.Extent{{}}, api.OK)
		checkGet(t, loca(long, 0, 20, 20, 22), bytes, 3, long, nil, api.ErrMore)
		// What is asked of an offset is asked of the next one only, so a first one behind the end is a fall.
		checkGet(t, loca(long, 22, 20), bytes, 1, long, nil, api.ErrForm)
		checkGet(t, loca(long, 60000, 50000), bytes, 1, long, nil, api.ErrForm)
		// An offset that no glyph asked for has makes no difference.
		checkGet(t, loca(long, 0, 10, 4), bytes, 1, long, []api.Extent{x}, api.OK)
		checkGet(t, loca(long, 0, 10, 22), bytes, 1, long, []api.Extent{x}, api.OK)
	}
	checkGet(t, loca(true, 10, 9), bytes, 1, true, nil, api.ErrForm)
	checkGet(t, loca(true, 20, 21), bytes, 1, true, nil, api.ErrMore)
	checkGet(t, loca(true, 21, 21), bytes, 1, true, nil, api.ErrMore)
	checkGet(t, loca(true, 10, 21), bytes, 1, true, nil, api.ErrMore)
}

func TestGetTellsTheFirstWrongGlyph(t *testing.T) {
	right := outline(api.Extent{Any: true, XMax: 1, YMax: 1})
	bad := outline(api.Extent{Any: true, XMin: 1, YMax: 1})
	bytes := right + bad
	for _, long := range forms {
		// A glyph that is not valid, few bytes, a fall and an end that is too far: whichever is first is told.
		checkGet(t, loca(long, 0, 10, 20, 24), bytes, 3, long, nil, api.ErrForm)
		checkGet(t, loca(long, 0, 10, 24, 20), bytes, 3, long, nil, api.ErrMore)
		checkGet(t, loca(long, 0, 4, 0), bytes, 2, long, nil, api.ErrMore)
		checkGet(t, loca(long, 4, 0, 4), bytes, 2, long, nil, api.ErrForm)
		checkGet(t, loca(long, 0, 2, 10, 20), bytes, 3, long, nil, api.ErrMore)
		checkGet(t, loca(long, 10, 20, 22), bytes, 2, long, nil, api.ErrForm)
		checkGet(t, loca(long, 10, 20, 10), bytes, 2, long, nil, api.ErrForm)
		checkGet(t, loca(long, 10, 22, 10), bytes, 2, long, nil, api.ErrMore)
		checkGet(t, loca(long, 0, 10, 10, 18, 8), bytes, 4, long, nil, api.ErrMore)
		checkGet(t, loca(long, 0, 10, 8, 30), bytes, 3, long, nil, api.ErrForm)
		// A wrong glyph behind those that are asked for is not told.
		checkGet(t, loca(long, 0, 10, 20), bytes, 1, long, []api.Extent{{Any: true, XMax: 1, YMax: 1}}, api.OK)
		// Missing offsets are told ahead of any glyph, and a wrong count ahead of them.
		checkGet(t, loca(long, 10, 0), bytes, 2, long, nil, api.ErrMore)
		checkGet(t, loca(long, 10, 20), bytes, 2, long, nil, api.ErrMore)
		checkGet(t, loca(long, 10, 0), bytes, 0, long, nil, api.ErrArg)
		checkGet(t, "", bytes, 65536, long, nil, api.ErrArg)
	}
}

func TestGetOfTablesOfAllKinds(t *testing.T) {
	next := source(2)
	told := map[api.Errno]int{}
	for range 6000 {
		n := 1 + next(12)
		for _, long := range forms {
			places, outlines := someTables(next, n, long)
			checkModel(t, places, outlines, n, long)
			checkModel(t, places, outlines, n, !long)
			checkModel(t, places[:next(len(places)+1)], outlines, n, long)
			_, e := model(places, outlines, n, long)
			told[e]++
		}
	}
	if told[api.OK] < 100 || told[api.ErrForm] < 100 || told[api.ErrMore] < 100 {
		t.Errorf("the tables do not tell all results often: %v", told)
	}
}

func TestPutWritesTwelveBytesForEachOutline(t *testing.T) {
	x := api.Extent{Any: true, XMin: -1, YMin: -2, XMax: 258, YMax: 32767}
	ofX := "\x00\x00\xff\xff\xff\xfe\x01\x02\x7f\xff\x00\x00"
	zero := strings.Repeat("\x00", 12)
	for _, k := range []struct {
		l           []api.Extent
		short, long string
		outlines    string
	}{
		{[]api.Extent{{}}, "\x00\x00\x00\x00", "\x00\x00\x00\x00\x00\x00\x00\x00", ""},
		{[]api.Extent{{Any: true}}, "\x00\x00\x00\x06", "\x00\x00\x00\x00\x00\x00\x00\x0c", zero},
		{[]api.Extent{x}, "\x00\x00\x00\x06", "\x00\x00\x00\x00\x00\x00\x00\x0c", ofX},
		{[]api.Extent{{}, x}, "\x00\x00\x00\x00\x00\x06", "\x00\x00\x00\x00\x00\x00\x00\x00\x00\x00\x00\x0c", ofX},
		{[]api.Extent{x, {}}, "\x00\x00\x00\x06\x00\x06", "\x00\x00\x00\x00\x00\x00\x00\x0c\x00\x00\x00\x0c", ofX},
		{[]api.Extent{x, {Any: true}, x}, "\x00\x00\x00\x06\x00\x0c\x00\x12", "\x00\x00\x00\x00\x00\x00\x00\x0c\x00\x00\x00\x18\x00\x00\x00\x24", ofX + zero + ofX},
	} {
		checkPut(t, k.l, false, k.short, k.outlines, api.OK)
		checkPut(t, k.l, true, k.long, k.outlines, api.OK)
	}
}

func TestPutOfListsOfAllKinds(t *testing.T) {
	next := source(3)
	for range 3000 {
		checkModelPut(t, some(next, next(30)))
	}
}

func TestPutTellsListsThatAreEmptyOrTooLong(t *testing.T) {
	for _, long := range forms {
		checkPut(t, nil, long, "", "", api.ErrArg)
		checkPut(t, []api.Extent{}, long, "", "", api.ErrArg)
		for _, n := range []int{65536, 65537, 131072} {
			checkPut(t, make([]api.Extent, n), long, "", "", api.ErrArg)
			checkPut(t, slices.Repeat([]api.Extent{{Any: true}}, n), long, "", "", api.ErrArg)
		}
	}
	for _, n := range []int{1, 65534, 65535} {
		checkModelPut(t, make([]api.Extent, n))
		checkModelPut(t, slices.Repeat([]api.Extent{{Any: true, XMin: -1, YMin: -2, XMax: 3, YMax: 4}}, n))
	}
}

func TestPutTellsOutlinesThatShortOffsetsDoNotReach(t *testing.T) {
	x := api.Extent{Any: true, XMin: -1, YMin: -2, XMax: 3, YMax: 4}
	for _, n := range []int{10921, 10922, 10923, 10924, 21844, 65535} {
		l := slices.Repeat([]api.Extent{x}, n)
		checkModelPut(t, l)
		if n > 10922 {
			checkPut(t, l, false, "", "", api.ErrLong)
		}
		if _, _, e := glyf.Put(l, true); e != api.OK {
			t.Errorf("P7.3: %d outlines with long offsets are %d", n, e)
		}
	}
	// Glyphs without an outline are not counted, wherever they stand.
	for _, n := range []int{10922, 10923} {
		l := make([]api.Extent, 65535)
		for i := range n {
			l[6*i] = x
		}
		checkModelPut(t, l)
		want := api.OK
		if n > 10922 {
			want = api.ErrLong
		}
		if _, _, e := glyf.Put(l, false); e != want {
			t.Errorf("P7.3: %d outlines of 65535 glyphs with short offsets are %d, not %d", n, e, want)
		}
	}
}

func TestPutTellsExtentsThatAreNotValid(t *testing.T) {
	for _, x := range wrong() {
		for _, long := range forms {
			checkPut(t, []api.Extent{x}, long, "", "", api.ErrArg)
			for place := range 3 {
				for _, rest := range []api.Extent{{}, {Any: true}} {
					l := slices.Repeat([]api.Extent{rest}, 3)
					l[place] = x
					checkPut(t, l, long, "", "", api.ErrArg)
				}
			}
		}
	}
}

func TestPutTellsWrongExtentsAheadOfTooManyOutlines(t *testing.T) {
	for _, n := range []int{10923, 10924, 65535} {
		l := slices.Repeat([]api.Extent{{Any: true}}, n)
		checkPut(t, l, false, "", "", api.ErrLong)
		for _, x := range []api.Extent{{XMin: 1}, {Any: true, XMin: 1}, {Any: true, YMax: 32768}} {
			for _, place := range []int{0, 10921, 10922, n - 1} {
				at := slices.Clone(l)
				at[place] = x
				for _, long := range forms {
					checkPut(t, at, long, "", "", api.ErrArg)
				}
			}
		}
	}
}

// plain is a valid head of so many glyphs.
func plain(glyphs int) api.Head {
	return api.Head{Upem: 1000, Glyphs: glyphs, Metrics: 1, Ascender: 700, Descender: -250}
}

func TestHighIsTheExtents(t *testing.T) {
	l := []api.Extent{{}, {Any: true, XMin: -1, YMin: -2, XMax: 258, YMax: 32767}, {Any: true}, {Any: true, XMin: 5, YMin: 10, XMax: 6, YMax: 20}, {Any: true, YMin: -20, YMax: -10}}
	for _, glyphs := range []int{5, 6, 65535} {
		h := plain(glyphs)
		checkHigh(t, h, l, 0, 0, 0, api.OK)
		checkHigh(t, h, l, 1, 32767, 2, api.OK)
		checkHigh(t, h, l, 2, 0, 0, api.OK)
		checkHigh(t, h, l, 3, 20, -10, api.OK)
		checkHigh(t, h, l, 4, -10, 20, api.OK)
		checkHigh(t, h, l, 5, 0, 0, api.ErrGlyph)
	}
}

func TestHighWithoutExtentsIsTheHeads(t *testing.T) {
	for _, n := range []int{-32768, -32767, -1, 0, 1, 32766, 32767} {
		for _, m := range []int{-32768, -32767, -1, 0, 1, 32766, 32767} {
			h := api.Head{Upem: 16, Glyphs: 3, Metrics: 2, Ascender: n, Descender: m, Long: n < m}
			for g := range 3 {
				checkHigh(t, h, nil, g, n, -m, api.OK)
				checkHigh(t, h, []api.Extent{}, g, n, -m, api.OK)
			}
			if n >= m {
				checkHigh(t, h, []api.Extent{{}, {Any: true, YMin: m, YMax: n}}, 1, n, -m, api.OK)
			}
		}
	}
}

func TestHighOfExtentsWithoutAny(t *testing.T) {
	h := plain(4)
	for _, n := range append([]int{-32768, -1, 1, 32767}, far...) {
		for _, x := range []api.Extent{{YMin: n}, {YMax: n}, {XMin: n, YMin: n, XMax: n, YMax: n}} {
			checkHigh(t, h, []api.Extent{{Any: true, YMax: 9}, x}, 1, 0, 0, api.OK)
		}
	}
}

func TestHighIsWhatTheExtentSays(t *testing.T) {
	// High asks only for Any: what Put would not take has a height and a depth too.
	h := plain(4)
	checkHigh(t, h, []api.Extent{{Any: true, XMin: 1, YMin: 5, YMax: 4}}, 0, 4, -5, api.OK)
	checkHigh(t, h, []api.Extent{{Any: true, YMin: -40000, YMax: 50000}}, 0, 50000, 40000, api.OK)
	// Nor are the other glyphs' extents asked.
	checkHigh(t, h, []api.Extent{{YMax: 3}, {Any: true, YMin: -3, YMax: 4}, {Any: true, XMin: 9}}, 1, 4, 3, api.OK)
}

func TestHighTellsGlyphsThatAreNotThere(t *testing.T) {
	next := source(4)
	for _, glyphs := range []int{1, 2, 5, 65534, 65535} {
		h := plain(glyphs)
		for _, n := range []int{0, 1, 2, 4, 5, 6, 65534, 65535, 65536} {
			l := some(next, n)
			for _, g := range append([]int{-65536, -2, -1, 0, 1, 4, 5, 6, glyphs - 2, glyphs - 1, glyphs, glyphs + 1, n - 2, n - 1, n, n + 1, 65535, 65536}, far...) {
				switch {
				case g < 0 || g >= glyphs || n > 0 && g >= n:
					checkHigh(t, h, l, g, 0, 0, api.ErrGlyph)
				case n == 0:
					checkHigh(t, h, l, g, 700, 250, api.OK)
				default:
					checkHigh(t, h, l, g, l[g].YMax, -l[g].YMin, api.OK)
				}
			}
		}
	}
}

func TestHighTellsHeadsThatAreNotValid(t *testing.T) {
	for _, h := range []api.Head{
		{},
		{Upem: 15, Glyphs: 5, Metrics: 1},
		{Upem: 16385, Glyphs: 5, Metrics: 1},
		{Upem: 1000, Glyphs: 0, Metrics: 0},
		{Upem: 1000, Glyphs: 0, Metrics: 1},
		{Upem: 1000, Glyphs: 65536, Metrics: 1},
		{Upem: 1000, Glyphs: 5, Metrics: 0},
		{Upem: 1000, Glyphs: 5, Metrics: 6},
		{Upem: 1000, Glyphs: 5, Metrics: 1, Ascender: 32768},
		{Upem: 1000, Glyphs: 5, Metrics: 1, Ascender: -32769},
		{Upem: 1000, Glyphs: 5, Metrics: 1, Descender: 32768},
		{Upem: 1000, Glyphs: 5, Metrics: 1, Descender: -32769},
		{Upem: math.MinInt, Glyphs: math.MinInt, Metrics: math.MinInt, Ascender: math.MinInt, Descender: math.MinInt},
		{Upem: math.MaxInt, Glyphs: math.MaxInt, Metrics: math.MaxInt, Ascender: math.MaxInt, Descender: math.MaxInt},
	} {
		for _, l := range [][]api.Extent{nil, {{}}, {{Any: true, YMax: 5}, {}}} {
			// A wrong head is told ahead of a wrong glyph.
			for _, g := range append([]int{-1, 0, 1, 4, 5, 65536}, far...) {
				checkHigh(t, h, l, g, 0, 0, api.ErrArg)
			}
		}
	}
}

func TestHeightsAndDepthsAreSmall(t *testing.T) {
	next := source(5)
	for range 3000 {
		n := next(6)
		l := some(next, n)
		h := api.Head{Upem: 16 + next(16369), Glyphs: 1 + next(6), Metrics: 1, Ascender: next(65536) - 32768, Descender: next(65536) - 32768}
		for g := range h.Glyphs {
			height, depth, e := glyf.High(h, l, g)
			if height < -32768 || height > 32768 || depth < -32768 || depth > 32768 {
				t.Errorf("P7.5: High(%+v, %v, %d) is %d, %d, %d", h, l, g, height, depth, e)
			}
		}
	}
}

func TestWhatPutWritesGetReads(t *testing.T) {
	next := source(6)
	check := func(l []api.Extent) {
		t.Helper()
		for _, long := range forms {
			places, outlines, e := glyf.Put(l, long)
			for _, behind := range []string{"", "\x00", "\xff", "\x00\x01", "\xff\xff\xff\xff", strings.Repeat("\x80", 1+next(40))} {
				for _, k := range [][2]string{{places + behind, outlines}, {places, outlines + behind}, {places + behind, outlines + behind}} {
					got, e2 := glyf.Get(k[0], k[1], len(l), long)
					if !slices.Equal(got, l) || e != api.OK || e2 != api.OK {
						t.Errorf("P7.5: %v, of %d, is written as %q, %q (long: %v), %d, and read with %q behind as %v, of %d, %d", shortList(l), len(l), shortText(places), shortText(outlines), long, e, behind, shortList(got), len(got), e2)
					}
				}
			}
		}
	}
	for range 500 {
		check(some(next, 1+next(40)))
	}
	check(slices.Repeat([]api.Extent{{Any: true, XMin: -32768, YMin: -32768, XMax: 32767, YMax: 32767}}, 10922))
	check(make([]api.Extent, 65535))
	l := some(next, 65535)
	places, outlines, _ := glyf.Put(l, true)
	if got, e := glyf.Get(places, outlines, 65535, true); !slices.Equal(got, l) || e != api.OK {
		t.Errorf("P7.5: 65535 extents with long offsets are read as %d, %d", len(got), e)
	}
}

func TestBytesBehindTheTablesMakeNoDifference(t *testing.T) {
	next := source(7)
	for range 2000 {
		n := 1 + next(8)
		for _, long := range forms {
			places, outlines := someTables(next, n, long)
			want, e := model(places, outlines, n, long)
			if e != api.OK {
				continue
			}
			for _, behind := range []string{"\x00", "\x80\xff", strings.Repeat("\xee", 1+next(100))} {
				checkGet(t, places+behind, outlines, n, long, want, e)
				checkGet(t, places, outlines+behind, n, long, want, e)
			}
		}
	}
}
