package segment_test

import (
	"math"
	"slices"
	"strings"
	"testing"

	"vinculum/api"
	"vinculum/chart"
	"vinculum/segment"
)

// far are numbers that no rune, glyph or step reaches.
var far = []int{math.MinInt, math.MinInt + 1, math.MinInt32, -1 << 21, 1 << 21, math.MaxInt32, 1 << 32, 1<<32 + 1, 1 << 62, 1<<62 + 1, math.MaxInt - 1, math.MaxInt}

// one is a rune's span, as Get answers it where an offset is not 0.
func one(c, g int) api.Span { return api.Span{From: c, To: c, Glyph: g, Step: 1} }

// rising is a span whose glyphs rise.
func rising(from, to, g int) api.Span { return api.Span{From: from, To: to, Glyph: g, Step: 1} }

// same is a span whose glyphs are all the same.
func same(from, to, g int) api.Span { return api.Span{From: from, To: to, Glyph: g} }

// pairs are numbers' bytes, two for each, one behind the other.
func pairs(l ...int) string {
	var b strings.Builder
	for _, n := range l {
		b.Write([]byte{byte(n >> 8), byte(n)})
	}
	return b.String()
}

// seg is a segment's numbers.
type seg struct{ start, end, delta, offset int }

// closing is the segment that a subtable may end with.
var closing = seg{65535, 65535, 1, 0}

// numbersOf are those of a subtable that is right as a whole, but for the search parameters, the language and the reserved integer, which are given ones.
func numbersOf(any int, l []seg, glyphs ...int) []int {
	n := len(l)
	numbers := []int{4, 16 + 8*n + 2*len(glyphs), any, 2 * n, any, any, any}
	for _, x := range l {
		numbers = append(numbers, x.end)
	}
	numbers = append(numbers, any)
	for _, x := range l {
		numbers = append(numbers, x.start)
	}
	for _, x := range l {
		numbers = append(numbers, x.delta)
	}
	for _, x := range l {
		numbers = append(numbers, x.offset)
	}
	return append(numbers, glyphs...)
}

func table(l []seg, glyphs ...int) string { return pairs(numbersOf(0, l, glyphs...)...) }

// with is a text whose bytes from a place on are others.
func with(s string, at int, other string) string { return s[:at] + other + s[at+len(other):] }

// modelGet reads a subtable by the words of P9.1, one after the other, with byte positions.
func modelGet(s string) ([]api.Span, api.Errno) {
	integer := func(at int) int { return int(s[at])*256 + int(s[at+1]) }
	if len(s) < 14 {
		return nil, api.ErrMore
	}
	if integer(0) != 4 || integer(6)%2 == 1 || integer(6) == 0 {
		return nil, api.ErrForm
	}
	length, n := integer(2), integer(6)/2
	if length > len(s) {
		return nil, api.ErrMore
	}
	if length < 16+8*n {
		return nil, api.ErrForm
	}
	end := func(i int) int { return integer(14 + 2*i) }
	start := func(i int) int { return integer(16 + 2*n + 2*i) }
	delta := func(i int) int { return integer(16 + 4*n + 2*i) }
	offset := func(i int) int { return integer(16 + 6*n + 2*i) }
	for i := range n {
		if start(i) > end(i) || i > 0 && start(i) <= end(i-1) || offset(i)%2 == 1 {
			return nil, api.ErrForm
		}
	}
	if end(n-1) != 65535 {
		return nil, api.ErrForm
	}
	var l []api.Span
	for i := range n {
		if offset(i) == 0 {
			x := api.Span{From: start(i), Glyph: (start(i) + delta(i)) % 65536, Step: 1}
			for c := start(i); c <= end(i); c++ {
				g := (c + delta(i)) % 65536
				if g == 0 && c > start(i) {
					x.To = c - 1
					l = append(l, x)
					x = api.Span{From: c, Step: 1}
				}
			}
			x.To = end(i)
			l = append(l, x)
			continue
		}
		for c := start(i); c <= end(i); c++ {
			at := 16 + 6*n + 2*i + offset(i) + 2*(c-start(i))
			if at+2 > length {
				return nil, api.ErrMore
			}
			v := integer(at)
			if v == 0 {
				continue
			}
			if g := (v + delta(i)) % 65536; g != 0 {
				l = append(l, one(c, g))
			}
		}
	}
	return l, api.OK
}

// glyphOf is that of a rune of a span.
func glyphOf(x api.Span, c int) int { return x.Glyph + x.Step*(c-x.From) }

// hasGlyph asks each rune of a span.
func hasGlyph(x api.Span) bool {
	for c := x.From; c <= x.To; c++ {
		if glyphOf(x, c) != 0 {
			return true
		}
	}
	return false
}

// modelPut writes by the words of P9.2, for a list that is valid or not; Many's numbers are beside it.
func modelPut(l []api.Span) (s string, segments, glyphs int, e api.Errno) {
	if !chart.Is(l) {
		return "", 0, 0, api.ErrArg
	}
	var kept []api.Span
	last := false
	for _, x := range l {
		if !hasGlyph(x) {
			continue
		}
		for c := max(x.From, 65536); c <= x.To; c++ {
			if glyphOf(x, c) != 0 {
				return "", 0, 0, api.ErrLong
			}
		}
		kept = append(kept, x)
		last = last || x.To == 65535
	}
	n := len(kept)
	if !last {
		n++
	}
	var segs []seg
	var list []int
	for i, x := range kept {
		if x.Step == 1 || x.From == x.To {
			segs = append(segs, seg{x.From, x.To, (x.Glyph - x.From + 65536) % 65536, 0})
			continue
		}
		field, glyph := 16+6*n+2*i, 16+8*n+2*len(list)
		segs = append(segs, seg{x.From, x.To, 0, glyph - field})
		for c := x.From; c <= x.To; c++ {
			list = append(list, glyphOf(x, c))
		}
	}
	if !last {
		segs = append(segs, closing)
	}
	numbers := numbersOf(0, segs, list...)
	if numbers[1] > 65535 {
		return "", 0, 0, api.ErrLong
	}
	p, log := 1, 0
	for 2*p <= n {
		p, log = 2*p, log+1
	}
	numbers[4], numbers[5], numbers[6] = 2*p, log, 2*n-2*p
	return pairs(numbers...), n, len(list), api.OK
}

// source gives numbers below a bound; the same seed gives the same ones.
func source(seed int) func(int) int {
	bits := uint64(seed)*2862933555777941757 + 3037000493
	return func(bound int) int {
		bits = bits*6364136223846793005 + 1442695040888963407
		return int((bits >> 33) % uint64(bound))
	}
}

// someSpans is a valid list of spans that rise from a rune on, with gaps.
func someSpans(next func(int) int, n, from int) []api.Span {
	var l []api.Span
	for range n {
		x := api.Span{From: from, To: from + []int{0, 0, 1, 2, next(9), next(40)}[next(6)], Step: next(2)}
		top := 65535 - x.Step*(x.To-x.From)
		x.Glyph = []int{0, 0, 1, top, next(top + 1)}[next(5)]
		l = append(l, x)
		from = x.To + 1 + []int{0, 0, 1, next(9)}[next(4)]
	}
	return l
}

// ones are n spans of a rune each, from 0 on, all with a glyph.
func ones(n, g int) []api.Span {
	l := make([]api.Span, n)
	for i := range l {
		l[i] = one(i, g)
	}
	return l
}

// apart are n spans of a rune each, none of them the last one, all with a glyph.
func apart(n int) []api.Span {
	l := make([]api.Span, n)
	for i := range l {
		l[i] = one(3*i, 1+i)
	}
	return l
}

func shortList(l []api.Span) []api.Span { return l[:min(len(l), 20)] }

func shortText(s string) string { return s[:min(len(s), 80)] }

func checkGet(t *testing.T, s string, want []api.Span, wantE api.Errno) {
	t.Helper()
	l, e := segment.Get(s)
	if !slices.Equal(l, want) || e != wantE {
		t.Errorf("P9.1: Get(%q, of %d bytes) is %+v, of %d, %d, not %+v, of %d, %d", shortText(s), len(s), shortList(l), len(l), e, shortList(want), len(want), wantE)
	}
	if !chart.Is(l) {
		t.Errorf("P9.4: what Get(%q, of %d bytes) answers is not valid: %+v", shortText(s), len(s), shortList(l))
	}
}

// checkModel holds Get against the model, and tells its error.
func checkModel(t *testing.T, s string) api.Errno {
	t.Helper()
	want, e := modelGet(s)
	checkGet(t, s, want, e)
	return e
}

// mapped are the glyphs of all runes up to the last one that a field reaches.
func mapped(l []api.Span) []int {
	glyphs := make([]int, 65536)
	for _, x := range l {
		for c := x.From; c <= min(x.To, 65535); c++ {
			glyphs[c] = glyphOf(x, c)
		}
	}
	return glyphs
}

// checkPut holds Put and Many against what is asked, and reads again what is written.
func checkPut(t *testing.T, l []api.Span, want string, segments, glyphs int, wantE api.Errno) {
	t.Helper()
	before := slices.Clone(l)
	s, e := segment.Put(l)
	if s != want || e != wantE {
		t.Errorf("P9.2: Put(%+v, of %d) is %q, of %d bytes, %d, not %q, of %d, %d", shortList(l), len(l), shortText(s), len(s), e, shortText(want), len(want), wantE)
	}
	n, k, e := segment.Many(l)
	if n != segments || k != glyphs || e != wantE {
		t.Errorf("P9.3: Many(%+v, of %d) is %d, %d, %d, not %d, %d, %d", shortList(l), len(l), n, k, e, segments, glyphs, wantE)
	}
	if !slices.Equal(l, before) {
		t.Errorf("R2: Put or Many changed the spans from %+v to %+v", shortList(before), shortList(l))
	}
	if e != api.OK {
		return
	}
	if len(s) != 16+8*n+2*k {
		t.Errorf("P9.3: Put(%+v) has %d bytes, but Many tells %d segments and %d glyphs", shortList(l), len(s), n, k)
	}
	again, e := segment.Get(s)
	if e != api.OK || !chart.Is(again) {
		t.Errorf("P9.4: what Put(%+v) writes is read as %+v, %d", shortList(l), shortList(again), e)
	}
	if !slices.Equal(mapped(l), mapped(again)) {
		t.Errorf("P9.4: what Put(%+v, of %d) writes has other glyphs when read again: %+v", shortList(l), len(l), shortList(again))
	}
}

// checkModelPut holds Put and Many against the model, and tells their error.
func checkModelPut(t *testing.T, l []api.Span) api.Errno {
	t.Helper()
	s, n, k, e := modelPut(l)
	checkPut(t, l, s, n, k, e)
	return e
}

func TestGetReadsSegments(t *testing.T) {
	checkGet(t, "\x00\x04\x00\x18\x00\x00\x00\x02\x00\x02\x00\x00\x00\x00\xff\xff\x00\x00\xff\xff\x00\x01\x00\x00", []api.Span{one(65535, 0)}, api.OK)
	checkGet(t, "\x00\x04\x00\x20\x00\x00\x00\x04\x00\x04\x00\x01\x00\x00\x01\x02\xff\xff\x00\x00\x01\x00\xff\xff\x00\x05\x00\x01\x00\x00\x00\x00", []api.Span{rising(256, 258, 261), one(65535, 0)}, api.OK)
	checkGet(t, "\x00\x04\x00\x26\x00\x00\x00\x04\x00\x04\x00\x01\x00\x00\x01\x02\xff\xff\x00\x00\x01\x00\xff\xff\x00\x00\x00\x01\x00\x04\x00\x00\x00\x07\x00\x00\x03\x04", []api.Span{one(256, 7), one(258, 772), one(65535, 0)}, api.OK)
}

func TestGetOfTextsOfEachLength(t *testing.T) {
	full := table([]seg{{5, 9, 100, 0}, {20, 22, 3, 4}, closing}, 4, 0, 6) + "more"
	for n := range len(full) + 1 {
		checkModel(t, full[:n])
	}
	for n := range 14 {
		checkGet(t, full[:n], nil, api.ErrMore)
		checkGet(t, strings.Repeat("\xff", n), nil, api.ErrMore)
		checkGet(t, strings.Repeat("\x00", n), nil, api.ErrMore)
	}
	for _, n := range []int{14, 15} {
		checkGet(t, full[:n], nil, api.ErrMore)
		checkGet(t, strings.Repeat("\xff", n), nil, api.ErrForm)
		checkGet(t, strings.Repeat("\x00", n), nil, api.ErrForm)
		// As short a length is ErrForm, though the bytes for it are there.
		for _, length := range []int{0, 1, 14} {
			checkGet(t, pairs(4, length, 0, 2, 0, 0, 0)+strings.Repeat("\x00", n-14), nil, api.ErrForm)
		}
	}
	checkGet(t, pairs(4, 15, 0, 2, 0, 0, 0)+"\x00", nil, api.ErrForm)
	checkGet(t, pairs(4, 15, 0, 2, 0, 0, 0), nil, api.ErrMore)
}

func TestGetOfEveryFormat(t *testing.T) {
	right := table([]seg{closing})
	for f := range 65536 {
		want, e := []api.Span(nil), api.ErrForm
		if f == 4 {
			want, e = []api.Span{one(65535, 0)}, api.OK
		}
		checkGet(t, with(right, 0, pairs(f)), want, e)
	}
	// The format is asked ahead of a length that is too great, and behind bytes that are missing.
	checkGet(t, pairs(6, 65535, 0, 2, 0, 0, 0), nil, api.ErrForm)
	checkGet(t, pairs(4, 65535, 0, 2, 0, 0, 0), nil, api.ErrMore)
	checkGet(t, pairs(6, 65535, 0, 2, 0, 0), nil, api.ErrMore)
}

func TestGetOfEveryFourthInteger(t *testing.T) {
	right := table([]seg{{1, 2, 3, 0}, closing})
	for n := range 65536 {
		s := with(right, 6, pairs(n))
		checkModel(t, s)
		switch {
		case n%2 == 1 || n == 0:
			// It is asked ahead of the length.
			checkGet(t, s, nil, api.ErrForm)
			checkGet(t, with(s, 2, pairs(65535)), nil, api.ErrForm)
		default:
			checkGet(t, with(s, 2, pairs(65535)), nil, api.ErrMore)
		}
	}
}

func TestGetOfEveryLength(t *testing.T) {
	right := table([]seg{{1, 2, 3, 0}, {7, 9, 65535, 4}, closing}, 1, 2, 3)
	for n := range 65536 {
		checkModel(t, with(right, 2, pairs(n)))
	}
	size := len(right)
	checkGet(t, with(right, 2, pairs(size+1)), nil, api.ErrMore)
	checkGet(t, with(right, 2, pairs(size)), []api.Span{rising(1, 2, 4), one(8, 1), one(9, 2), one(65535, 0)}, api.OK)
	checkGet(t, with(right, 2, pairs(size-1)), nil, api.ErrMore)
	checkGet(t, with(right, 2, pairs(16+8*3)), nil, api.ErrMore)
	checkGet(t, with(right, 2, pairs(15+8*3)), nil, api.ErrForm)
}

func TestGetOfLengthsBesideTheLeastOne(t *testing.T) {
	for _, n := range []int{1, 2, 3, 4, 7, 8, 9, 255, 256, 8189} {
		segs := make([]seg, n)
		var want []api.Span
		for i := range segs {
			segs[i] = seg{7 * i, 7*i + 2, 3, 0}
			if i == n-1 {
				segs[i] = closing
				want = append(want, one(65535, 0))
			} else {
				want = append(want, rising(7*i, 7*i+2, 7*i+3))
			}
		}
		s := table(segs)
		if len(s) != 16+8*n {
			t.Fatalf("%d segments have %d bytes", n, len(s))
		}
		checkGet(t, s, want, api.OK)
		checkGet(t, s+"x", want, api.OK)
		checkGet(t, with(s, 2, pairs(15+8*n)), nil, api.ErrForm)
		checkGet(t, with(s, 2, pairs(17+8*n)), nil, api.ErrMore)
		checkGet(t, with(s, 2, pairs(17+8*n))+"x", want, api.OK)
		checkGet(t, with(s, 2, pairs(0)), nil, api.ErrForm)
		// More segments than the length has room for.
		checkGet(t, with(s, 6, pairs(2*n+2)), nil, api.ErrForm)
		checkGet(t, with(s, 6, pairs(2*n+2))+strings.Repeat("x", 100), nil, api.ErrForm)
	}
	// 8190 segments need a length above 65535.
	checkGet(t, pairs(4, 65535, 0, 2*8190, 0, 0, 0)+strings.Repeat("\x00", 70000), nil, api.ErrForm)
}

func TestGetIgnoresWhatItShould(t *testing.T) {
	segs := []seg{{0, 3, 5, 0}, {10, 12, 2, 4}, closing}
	want := []api.Span{rising(0, 3, 5), one(10, 9), one(12, 3), one(65535, 0)}
	for n := range 65536 {
		s := pairs(numbersOf(n, segs, 7, 0, 1)...)
		checkGet(t, s, want, api.OK)
	}
	right := table(segs, 7, 0, 1)
	for _, at := range []int{4, 8, 10, 12, 14 + 6} {
		for _, n := range []int{1, 2, 255, 256, 32768, 65535} {
			checkGet(t, with(right, at, pairs(n)), want, api.OK)
		}
	}
	for _, more := range []string{"\x00", "x", "more", strings.Repeat("\xff", 70000)} {
		checkGet(t, right+more, want, api.OK)
	}
}

func TestGetOfStartsBesideEnds(t *testing.T) {
	for _, end := range []int{0, 1, 9, 255, 256, 32767, 32768, 65533} {
		for _, more := range []int{-1, 0, 1} {
			start := end + more
			if start < 0 {
				continue
			}
			for _, offset := range []int{0, 4} {
				s := table([]seg{{start, end, 9, offset}, closing}, 1, 2)
				if e := checkModel(t, s); (e == api.ErrForm) != (more > 0) {
					t.Errorf("P9.1: a segment from %d to %d is %d", start, end, e)
				}
			}
		}
	}
	// The last segment, too.
	checkGet(t, table([]seg{{65534, 65535, 0, 0}}), []api.Span{rising(65534, 65535, 65534)}, api.OK)
	checkGet(t, table([]seg{{65535, 65535, 0, 0}}), []api.Span{one(65535, 65535)}, api.OK)
	checkGet(t, table([]seg{{65535, 65534, 0, 0}}), nil, api.ErrForm)
	checkGet(t, table([]seg{{65535, 65534, 0, 0}, closing}), nil, api.ErrForm)
}

func TestGetOfStartsBesideTheEndBefore(t *testing.T) {
	for _, end := range []int{3, 255, 256, 32767, 65000} {
		for _, more := range []int{-2, -1, 0, 1, 2} {
			s := table([]seg{{end - 3, end, 1, 0}, {end + more, end + 5, 2, 0}, closing})
			want, e := []api.Span{rising(end-3, end, end-2), rising(end+more, end+5, end+more+2), one(65535, 0)}, api.OK
			if more <= 0 {
				want, e = nil, api.ErrForm
			}
			checkGet(t, s, want, e)
		}
	}
	// The last segment, too.
	checkGet(t, table([]seg{{5, 65534, 0, 0}, closing}), []api.Span{rising(5, 65534, 5), one(65535, 0)}, api.OK)
	checkGet(t, table([]seg{{5, 65535, 0, 0}, closing}), nil, api.ErrForm)
	checkGet(t, table([]seg{closing, closing}), nil, api.ErrForm)
	// Segments that fall.
	checkGet(t, table([]seg{{20, 22, 1, 0}, {5, 9, 1, 0}, closing}), nil, api.ErrForm)
}

func TestGetOfAFirstSegmentFromNoughtOn(t *testing.T) {
	checkGet(t, table([]seg{{0, 0, 7, 0}, closing}), []api.Span{one(0, 7), one(65535, 0)}, api.OK)
	checkGet(t, table([]seg{{0, 5, 0, 0}, closing}), []api.Span{rising(0, 5, 0), one(65535, 0)}, api.OK)
	checkGet(t, table([]seg{{0, 1, 0, 4}, closing}, 8, 9), []api.Span{one(0, 8), one(1, 9), one(65535, 0)}, api.OK)
	checkGet(t, table([]seg{{0, 65535, 0, 0}}), []api.Span{rising(0, 65535, 0)}, api.OK)
	checkGet(t, table([]seg{{0, 0, 7, 0}, {0, 9, 7, 0}, closing}), nil, api.ErrForm)
}

func TestGetOfOddAndEvenOffsets(t *testing.T) {
	glyphs := []int{11, 12, 13, 14, 15, 16}
	for at := range 3 {
		for offset := range 65536 {
			segs := []seg{{5, 6, 1, 0}, {10, 11, 2, 0}, {65534, 65535, 3, 0}}
			segs[at].offset = offset
			s := table(segs, glyphs...)
			e := checkModel(t, s)
			if offset%2 == 1 && e != api.ErrForm || offset > 60 && offset%2 == 0 && e != api.ErrMore {
				t.Fatalf("P9.1: an offset of %d at the segment %d is %d", offset, at, e)
			}
		}
	}
}

func TestGetOfEveryLastEnd(t *testing.T) {
	for end := range 65536 {
		s := table([]seg{{0, end, 1, 0}})
		e := checkModel(t, s)
		if (e == api.OK) != (end == 65535) {
			t.Errorf("P9.1: a last end of %d is %d", end, e)
		}
	}
	checkGet(t, table([]seg{{5, 9, 0, 0}, {65534, 65534, 0, 0}}), nil, api.ErrForm)
	checkGet(t, table([]seg{{5, 65535, 0, 0}, {65535, 65534, 0, 0}}), nil, api.ErrForm)
}

func TestGetOfGlyphsThatWrapAround(t *testing.T) {
	last := one(65535, 0)
	for _, k := range []struct {
		x    seg
		want []api.Span
	}{
		// The last glyph is 65534, 65535, 65536 and 65537, modulo 65536.
		{seg{10, 14, 65520, 0}, []api.Span{rising(10, 14, 65530)}},
		{seg{10, 14, 65521, 0}, []api.Span{rising(10, 14, 65531)}},
		{seg{10, 14, 65522, 0}, []api.Span{rising(10, 13, 65532), one(14, 0)}},
		{seg{10, 14, 65523, 0}, []api.Span{rising(10, 12, 65533), rising(13, 14, 0)}},
		{seg{10, 14, 65525, 0}, []api.Span{one(10, 65535), rising(11, 14, 0)}},
		// The first glyph is 0, by the sum 65536, and it is 1.
		{seg{10, 14, 65526, 0}, []api.Span{rising(10, 14, 0)}},
		{seg{10, 14, 65527, 0}, []api.Span{rising(10, 14, 1)}},
		{seg{0, 4, 0, 0}, []api.Span{rising(0, 4, 0)}},
		{seg{0, 0, 0, 0}, []api.Span{one(0, 0)}},
		{seg{0, 4, 65535, 0}, []api.Span{one(0, 65535), rising(1, 4, 0)}},
		// One rune.
		{seg{10, 10, 65525, 0}, []api.Span{one(10, 65535)}},
		{seg{10, 10, 65526, 0}, []api.Span{one(10, 0)}},
		{seg{10, 10, 65527, 0}, []api.Span{one(10, 1)}},
		// The deltas 0, 1, 32768 and 65535.
		{seg{300, 302, 0, 0}, []api.Span{rising(300, 302, 300)}},
		{seg{300, 302, 1, 0}, []api.Span{rising(300, 302, 301)}},
		{seg{300, 302, 32768, 0}, []api.Span{rising(300, 302, 33068)}},
		{seg{300, 302, 65535, 0}, []api.Span{rising(300, 302, 299)}},
		{seg{32766, 32769, 32768, 0}, []api.Span{rising(32766, 32767, 65534), rising(32768, 32769, 0)}},
		{seg{65000, 65534, 0, 0}, []api.Span{rising(65000, 65534, 65000)}},
		{seg{65000, 65534, 1, 0}, []api.Span{rising(65000, 65534, 65001)}},
		{seg{65000, 65534, 2, 0}, []api.Span{rising(65000, 65533, 65002), one(65534, 0)}},
		{seg{65000, 65534, 65535, 0}, []api.Span{rising(65000, 65534, 64999)}},
	} {
		checkGet(t, table([]seg{k.x, closing}), append(slices.Clone(k.want), last), api.OK)
	}
	checkGet(t, table([]seg{{0, 65535, 1, 0}}), []api.Span{rising(0, 65534, 1), one(65535, 0)}, api.OK)
	checkGet(t, table([]seg{{0, 65535, 65535, 0}}), []api.Span{one(0, 65535), rising(1, 65535, 0)}, api.OK)
	checkGet(t, table([]seg{{0, 65535, 32768, 0}}), []api.Span{rising(0, 32767, 32768), rising(32768, 65535, 0)}, api.OK)
}

func TestGetOfEveryDelta(t *testing.T) {
	for delta := range 65536 {
		checkModel(t, table([]seg{{40, 43, delta, 0}, {300, 302, delta, 4}, closing}, 7, 0, 65530))
		checkModel(t, table([]seg{{65533, 65535, delta, 2}}, 1, 32768, 65535))
		checkModel(t, table([]seg{{65533, 65535, delta, 0}}))
	}
}

func TestGetOfListedGlyphs(t *testing.T) {
	last := one(65535, 0)
	for _, k := range []struct {
		delta  int
		glyphs []int
		want   []api.Span
	}{
		{0, []int{7, 8, 7}, []api.Span{one(10, 7), one(11, 8), one(12, 7)}},
		{0, []int{0, 0, 0}, nil},
		{0, []int{0, 1, 0}, []api.Span{one(11, 1)}},
		{1, []int{0, 1, 65535}, []api.Span{one(11, 2)}},
		{1, []int{65534, 65535, 0}, []api.Span{one(10, 65535)}},
		{65535, []int{1, 2, 0}, []api.Span{one(11, 1)}},
		{65535, []int{0, 65535, 1}, []api.Span{one(11, 65534)}},
		{32768, []int{32767, 32768, 32769}, []api.Span{one(10, 65535), one(12, 1)}},
		{5, []int{0, 65531, 65532}, []api.Span{one(12, 1)}},
	} {
		checkGet(t, table([]seg{{10, 12, k.delta, 4}, closing}, k.glyphs...), append(slices.Clone(k.want), last), api.OK)
	}
	for v := range 65536 {
		checkModel(t, table([]seg{{65535, 65535, 3, 2}}, v))
	}
}

func TestGetOfOffsetsBesideTheEnd(t *testing.T) {
	// Three runes and four glyphs: from the first one and from the second one, there are enough. The offset of the last segment, which is 0, stands ahead of them.
	for k, want := range map[int][]api.Span{
		2: {one(11, 21), one(12, 22)},
		4: {one(10, 21), one(11, 22), one(12, 23)},
		6: {one(10, 22), one(11, 23), one(12, 24)},
	} {
		checkGet(t, table([]seg{{10, 12, 0, k}, closing}, 21, 22, 23, 24), append(want, one(65535, 0)), api.OK)
	}
	for _, k := range []int{8, 10, 12, 14, 1000, 65534} {
		checkGet(t, table([]seg{{10, 12, 0, k}, closing}, 21, 22, 23, 24), nil, api.ErrMore)
	}
	// An integer of which only the first byte is within the length.
	s := table([]seg{{10, 12, 0, 8}, closing}, 21, 22, 23, 24)
	checkGet(t, with(s, 2, pairs(len(s)+1))+"\x01", nil, api.ErrMore)
	checkGet(t, with(s, 2, pairs(len(s)+1))+"\x01\x02", nil, api.ErrMore)
	checkGet(t, with(s, 2, pairs(len(s)+2))+"\x01\x02", []api.Span{one(10, 23), one(11, 24), one(12, 258), one(65535, 0)}, api.OK)
	checkGet(t, with(s, 2, pairs(len(s)+3))+"\x01\x02\x03", []api.Span{one(10, 23), one(11, 24), one(12, 258), one(65535, 0)}, api.OK)
	// Bytes behind the length are none of its.
	checkGet(t, s+"\x01\x02", nil, api.ErrMore)
	// One rune, whose glyph is the last one, and the one behind.
	checkGet(t, table([]seg{{65535, 65535, 0, 2}}, 9), []api.Span{one(65535, 9)}, api.OK)
	checkGet(t, table([]seg{{65535, 65535, 0, 4}}, 9), nil, api.ErrMore)
	checkGet(t, table([]seg{{65535, 65535, 0, 2}}), nil, api.ErrMore)
	// An offset leads on from its own place, so the same one leads to other glyphs in the next segment.
	checkGet(t, table([]seg{{10, 11, 0, 4}, {65534, 65535, 0, 4}}, 21, 22, 23, 24), []api.Span{one(10, 21), one(11, 22), one(65534, 22), one(65535, 23)}, api.OK)
	// Two segments may share glyphs, and an offset may lead to another offset.
	checkGet(t, table([]seg{{10, 11, 0, 4}, {65534, 65535, 1, 2}}, 21, 22), []api.Span{one(10, 21), one(11, 22), one(65534, 22), one(65535, 23)}, api.OK)
	checkGet(t, table([]seg{{10, 11, 0, 2}, {65534, 65535, 0, 2}}, 21, 22), []api.Span{one(10, 2), one(11, 21), one(65534, 21), one(65535, 22)}, api.OK)
}

func TestGetOfTheLongestSubtables(t *testing.T) {
	// The greatest even length has room for 32755 glyphs beside one segment.
	glyphs := make([]int, 32755)
	for i := range glyphs {
		glyphs[i] = i % 3
	}
	s := table([]seg{{65535 - 32754, 65535, 0, 2}}, glyphs...)
	if len(s) != 65534 {
		t.Fatalf("the longest subtable has %d bytes", len(s))
	}
	checkModel(t, s)
	checkModel(t, with(s, 2, pairs(65535))+"x")
	checkGet(t, with(s, 2, pairs(65535)), nil, api.ErrMore)
	checkGet(t, table([]seg{{65535 - 32755, 65535, 0, 2}}, glyphs...), nil, api.ErrMore)
	// Every rune has a span of its own, where offsets lead segment after segment to the same glyphs.
	checkModel(t, table([]seg{{0, 32751, 1, 6}, {32752, 65503, 2, 4}, {65504, 65535, 3, 2}}, glyphs[:32752]...))
	// Each segment's glyphs wrap around.
	var segs []seg
	for i := range 8189 {
		segs = append(segs, seg{8 * i, 8*i + 1, 65535 - 8*i, 0})
	}
	segs[8188].end = 65535
	if e := checkModel(t, table(segs)); e != api.OK {
		t.Errorf("P9.1: the most segments are %d", e)
	}
	l, _ := segment.Get(table(segs))
	if len(l) != 2*8189 {
		t.Errorf("P9.1: segments whose glyphs wrap around are %d spans", len(l))
	}
}

func TestGetTellsTheFirstError(t *testing.T) {
	bad := seg{9, 8, 0, 1}
	more := seg{10, 12, 0, 1000}
	for _, k := range []struct {
		segs []seg
		want api.Errno
	}{
		{[]seg{more, closing}, api.ErrMore},
		{[]seg{more, {20, 19, 0, 0}, closing}, api.ErrForm},
		{[]seg{more, {12, 19, 0, 0}, closing}, api.ErrForm},
		{[]seg{more, {20, 21, 0, 3}, closing}, api.ErrForm},
		{[]seg{more, {20, 65534, 0, 0}}, api.ErrForm},
		{[]seg{more, {20, 65535, 0, 0}}, api.ErrMore},
		{[]seg{bad, more, closing}, api.ErrForm},
		{[]seg{{5, 6, 0, 0}, more, closing}, api.ErrMore},
		{[]seg{{5, 6, 0, 2}, more, closing}, api.ErrMore},
		{[]seg{more, {65535, 65535, 0, 1000}}, api.ErrMore},
		{[]seg{{10, 12, 0, 1001}, closing}, api.ErrForm},
		{[]seg{{12, 10, 0, 1000}, closing}, api.ErrForm},
	} {
		checkGet(t, table(k.segs), nil, k.want)
	}
	// A length that is too great is told ahead of wrong segments, and so is one that is too small for them.
	s := table([]seg{bad, closing})
	checkGet(t, with(s, 2, pairs(len(s)+1)), nil, api.ErrMore)
	checkGet(t, with(table([]seg{more, closing}), 2, pairs(31)), nil, api.ErrForm)
}

func TestGetOfSubtablesWithOneNumberChanged(t *testing.T) {
	next := source(1)
	told := map[api.Errno]int{}
	for range 40000 {
		var segs []seg
		from := next(30)
		for range next(5) {
			x := seg{from, from + next(6), next(65536), 2 * next(9)}
			if next(2) == 0 {
				x.offset = 0
			}
			segs = append(segs, x)
			from = x.end + 1 + next(3)
		}
		segs = append(segs, seg{65535 - next(3), 65535, next(4), []int{0, 0, 2, 4}[next(4)]})
		glyphs := make([]int, next(16))
		for i := range glyphs {
			glyphs[i] = next(3) * next(65536)
		}
		numbers := numbersOf(next(65536), segs, glyphs...)
		if next(2) == 0 {
			numbers[next(len(numbers))] = []int{0, 1, 2, 3, 4, 5, 65534, 65535, next(60), next(65536)}[next(10)]
		}
		told[checkModel(t, pairs(numbers...))]++
	}
	if told[api.OK] < 3000 || told[api.ErrForm] < 3000 || told[api.ErrMore] < 3000 {
		t.Errorf("the subtables do not tell all results often: %v", told)
	}
}

func TestGetOfBytesOfAllKinds(t *testing.T) {
	next := source(2)
	for range 20000 {
		b := make([]byte, next(60))
		for i := range b {
			b[i] = byte([]int{0, 0, 0, 255, 4, next(256)}[next(6)])
		}
		if len(b) > 8 && next(4) > 0 {
			copy(b, pairs(4, next(80), next(9), 2*next(5)))
		}
		checkModel(t, string(b))
	}
}

func TestPutWritesSegments(t *testing.T) {
	last := "\xff\xff"
	checkPut(t, nil, "\x00\x04\x00\x18\x00\x00\x00\x02\x00\x02\x00\x00\x00\x00"+last+"\x00\x00"+last+"\x00\x01\x00\x00", 1, 0, api.OK)
	checkPut(t, []api.Span{rising(256, 258, 261)}, "\x00\x04\x00\x20\x00\x00\x00\x04\x00\x04\x00\x01\x00\x00\x01\x02"+last+"\x00\x00\x01\x00"+last+"\x00\x05\x00\x01\x00\x00\x00\x00", 2, 0, api.OK)
	checkPut(t, []api.Span{same(256, 258, 772)}, "\x00\x04\x00\x26\x00\x00\x00\x04\x00\x04\x00\x01\x00\x00\x01\x02"+last+"\x00\x00\x01\x00"+last+"\x00\x00\x00\x01\x00\x04\x00\x00\x03\x04\x03\x04\x03\x04", 2, 3, api.OK)
}

// written is the subtable of segments with the search parameters given.
func written(p, log, rest int, segs []seg, glyphs ...int) string {
	numbers := numbersOf(0, segs, glyphs...)
	numbers[4], numbers[5], numbers[6] = p, log, rest
	return pairs(numbers...)
}

func TestPutOfSpansOfEachKind(t *testing.T) {
	for _, k := range []struct {
		x      api.Span
		want   seg
		glyphs []int
	}{
		{one(10, 5), seg{10, 10, 65531, 0}, nil},
		{same(10, 10, 5), seg{10, 10, 65531, 0}, nil},
		{rising(10, 20, 5), seg{10, 20, 65531, 0}, nil},
		{rising(10, 20, 10), seg{10, 20, 0, 0}, nil},
		{rising(10, 20, 11), seg{10, 20, 1, 0}, nil},
		{rising(10, 20, 9), seg{10, 20, 65535, 0}, nil},
		{rising(10, 20, 32778), seg{10, 20, 32768, 0}, nil},
		{rising(10, 20, 65525), seg{10, 20, 65515, 0}, nil},
		{rising(0, 0, 1), seg{0, 0, 1, 0}, nil},
		{rising(0, 3, 65532), seg{0, 3, 65532, 0}, nil},
		{rising(65534, 65534, 1), seg{65534, 65534, 3, 0}, nil},
		// The first rune has no glyph, but those behind have.
		{rising(10, 11, 0), seg{10, 11, 65526, 0}, nil},
		{rising(0, 9, 0), seg{0, 9, 0, 0}, nil},
		{rising(65530, 65534, 0), seg{65530, 65534, 6, 0}, nil},
		// The same glyph for several runes.
		{same(10, 11, 5), seg{10, 11, 0, 4}, []int{5, 5}},
		{same(10, 14, 65535), seg{10, 14, 0, 4}, []int{65535, 65535, 65535, 65535, 65535}},
		{same(0, 2, 1), seg{0, 2, 0, 4}, []int{1, 1, 1}},
		{same(65533, 65534, 9), seg{65533, 65534, 0, 4}, []int{9, 9}},
	} {
		want := written(4, 1, 0, []seg{k.want, closing}, k.glyphs...)
		checkPut(t, []api.Span{k.x}, want, 2, len(k.glyphs), api.OK)
		// Spans without glyphs around it make no difference.
		if k.x.From > 0 {
			checkPut(t, []api.Span{same(0, k.x.From-1, 0), k.x, same(k.x.To+1, 1114111, 0)}, want, 2, len(k.glyphs), api.OK)
		}
	}
}

func TestPutOfListsWithoutGlyphs(t *testing.T) {
	none := written(2, 0, 0, []seg{closing})
	for _, l := range [][]api.Span{
		nil, {}, {one(0, 0)}, {same(0, 0, 0)}, {same(5, 9, 0)}, {one(65535, 0)}, {same(65535, 65535, 0)}, {same(65530, 65535, 0)}, {same(65530, 65536, 0)}, {one(65536, 0)}, {same(0, 1114111, 0)}, {one(5, 0), same(7, 9, 0), one(65535, 0), one(1114111, 0)}, ones(65536, 0),
	} {
		checkPut(t, l, none, 1, 0, api.OK)
	}
}

func TestPutOfSeveralSpansThatListGlyphs(t *testing.T) {
	l := []api.Span{same(3, 4, 7), rising(10, 12, 30), same(20, 22, 8), one(30, 9), same(40, 41, 7), same(50, 60, 0), same(70, 70, 7), same(65534, 65535, 6)}
	want := written(8, 2, 6, []seg{{3, 4, 0, 14}, {10, 12, 20, 0}, {20, 22, 0, 14}, {30, 30, 65515, 0}, {40, 41, 0, 16}, {70, 70, 65473, 0}, {65534, 65535, 0, 16}}, 7, 7, 8, 8, 8, 7, 7, 6, 6)
	checkPut(t, l, want, 7, 9, api.OK)
	checkPut(t, []api.Span{same(3, 4, 7), same(5, 6, 7)}, written(4, 1, 2, []seg{{3, 4, 0, 6}, {5, 6, 0, 8}, closing}, 7, 7, 7, 7), 3, 4, api.OK)
	checkPut(t, []api.Span{same(65530, 65535, 7)}, written(2, 0, 0, []seg{{65530, 65535, 0, 2}}, 7, 7, 7, 7, 7, 7), 1, 6, api.OK)
}

func TestPutOfSpansBesideTheLastRune(t *testing.T) {
	for _, k := range []struct {
		l      []api.Span
		p, log int
		rest   int
		want   []seg
		glyphs []int
	}{
		{[]api.Span{one(65534, 3)}, 4, 1, 0, []seg{{65534, 65534, 5, 0}, closing}, nil},
		{[]api.Span{one(65535, 3)}, 2, 0, 0, []seg{{65535, 65535, 4, 0}}, nil},
		{[]api.Span{same(65535, 65535, 3)}, 2, 0, 0, []seg{{65535, 65535, 4, 0}}, nil},
		{[]api.Span{rising(65530, 65534, 3)}, 4, 1, 0, []seg{{65530, 65534, 9, 0}, closing}, nil},
		{[]api.Span{rising(65530, 65535, 3)}, 2, 0, 0, []seg{{65530, 65535, 9, 0}}, nil},
		{[]api.Span{rising(65534, 65535, 0)}, 2, 0, 0, []seg{{65534, 65535, 2, 0}}, nil},
		{[]api.Span{rising(0, 65535, 0)}, 2, 0, 0, []seg{{0, 65535, 0, 0}}, nil},
		{[]api.Span{same(65534, 65535, 3)}, 2, 0, 0, []seg{{65534, 65535, 0, 2}}, []int{3, 3}},
		{[]api.Span{same(65533, 65534, 3)}, 4, 1, 0, []seg{{65533, 65534, 0, 4}, closing}, []int{3, 3}},
		{[]api.Span{one(65534, 3), one(65535, 0)}, 4, 1, 0, []seg{{65534, 65534, 5, 0}, closing}, nil},
		{[]api.Span{one(65534, 0), one(65535, 3)}, 2, 0, 0, []seg{{65535, 65535, 4, 0}}, nil},
		{[]api.Span{one(65534, 3), one(65535, 9)}, 4, 1, 0, []seg{{65534, 65534, 5, 0}, {65535, 65535, 10, 0}}, nil},
		{[]api.Span{one(65535, 9), one(65536, 0)}, 2, 0, 0, []seg{{65535, 65535, 10, 0}}, nil},
		{[]api.Span{one(65534, 3), same(65535, 70000, 0)}, 4, 1, 0, []seg{{65534, 65534, 5, 0}, closing}, nil},
	} {
		checkPut(t, k.l, written(k.p, k.log, k.rest, k.want, k.glyphs...), len(k.want), len(k.glyphs), api.OK)
	}
}

func TestPutTellsRunesThatAreTooGreat(t *testing.T) {
	for _, k := range []struct {
		l    []api.Span
		want api.Errno
	}{
		{[]api.Span{one(65535, 1)}, api.OK},
		{[]api.Span{one(65535, 0)}, api.OK},
		{[]api.Span{one(65536, 1)}, api.ErrLong},
		{[]api.Span{one(65536, 0)}, api.OK},
		{[]api.Span{same(65536, 65536, 1)}, api.ErrLong},
		{[]api.Span{same(65536, 65536, 0)}, api.OK},
		{[]api.Span{one(65535, 1), one(65536, 0)}, api.OK},
		{[]api.Span{one(65535, 0), one(65536, 1)}, api.ErrLong},
		{[]api.Span{same(65535, 65536, 1)}, api.ErrLong},
		{[]api.Span{same(65535, 65536, 0)}, api.OK},
		{[]api.Span{rising(65535, 65536, 0)}, api.ErrLong},
		{[]api.Span{rising(65534, 65535, 0)}, api.OK},
		{[]api.Span{rising(65536, 65537, 0)}, api.ErrLong},
		{[]api.Span{one(5, 1), same(65536, 1114111, 0)}, api.OK},
		{[]api.Span{one(5, 1), same(65536, 70000, 0), one(1114111, 1)}, api.ErrLong},
		{[]api.Span{one(70000, 1), one(1114111, 0)}, api.ErrLong},
		{[]api.Span{same(0, 1114111, 1)}, api.ErrLong},
		{[]api.Span{rising(1048576, 1114111, 0)}, api.ErrLong},
	} {
		if _, e := segment.Put(k.l); e != k.want {
			t.Errorf("P9.2: Put(%+v) is %d, not %d", k.l, e, k.want)
		}
		checkModelPut(t, k.l)
	}
}

func TestPutTellsLengthsThatAreTooGreat(t *testing.T) {
	for _, k := range []struct {
		name   string
		l      []api.Span
		length int
	}{
		// Glyphs alone: with a closing segment, and without one.
		{"glyphs", []api.Span{same(0, 32749, 1)}, 65532},
		{"glyphs", []api.Span{same(0, 32750, 1)}, 65534},
		{"glyphs", []api.Span{same(0, 32751, 1)}, 65536},
		{"glyphs up to the last rune", []api.Span{same(65535-32754, 65535, 1)}, 65534},
		{"glyphs up to the last rune", []api.Span{same(65535-32755, 65535, 1)}, 65536},
		{"glyphs of several spans", []api.Span{same(0, 9, 1), same(10, 32742, 2), one(65535, 3)}, 16 + 8*3 + 2*32743},
		{"glyphs of several spans", []api.Span{same(0, 9, 1), same(10, 32756, 2), one(65535, 3)}, 16 + 8*3 + 2*32757},
		{"glyphs of each rune", []api.Span{same(0, 65535, 1)}, 16 + 8 + 2*65536},
		// Segments alone.
		{"segments", apart(8188), 16 + 8*8189},
		{"segments", apart(8189), 16 + 8*8190},
		{"segments up to the last rune", append(apart(8188), one(65535, 1)), 16 + 8*8189},
		{"segments up to the last rune", append(apart(8189), one(65535, 1)), 16 + 8*8190},
		{"segments and glyphs", append(apart(8187), same(65000, 65002, 1)), 16 + 8*8189 + 6},
		{"segments and glyphs", append(apart(8187), same(65000, 65003, 1)), 16 + 8*8189 + 8},
		{"as many spans as there may be", ones(65536, 1), 16 + 8*65536},
	} {
		want := api.OK
		if k.length > 65535 {
			want = api.ErrLong
		}
		s, e := segment.Put(k.l)
		if e != want || e == api.OK && len(s) != k.length {
			t.Errorf("P9.2: Put of %s with the length %d is of %d bytes, %d", k.name, k.length, len(s), e)
		}
		if got := checkModelPut(t, k.l); got != want {
			t.Errorf("P9.2: the length %d of %s is %d", k.length, k.name, got)
		}
	}
	// Spans without glyphs are no segments.
	l := append(apart(8188), ones(65536, 0)[8188*3:]...)
	if s, e := segment.Put(l); len(s) != 16+8*8189 || e != api.OK {
		t.Errorf("P9.2: %d spans, of which 8188 have glyphs, are of %d bytes, %d", len(l), len(s), e)
	}
}

func TestPutOfManyNumbersOfSegments(t *testing.T) {
	for n := range 300 {
		checkModelPut(t, apart(n))
	}
	for _, p := range []int{2, 4, 8, 16, 256, 512, 1024, 2048, 4096} {
		log := 0
		for 1<<log < p {
			log++
		}
		for _, more := range []int{-1, 0, 1} {
			n := p + more
			// The closing segment is one of them.
			s, e := segment.Put(apart(n - 1))
			if e != api.OK {
				t.Fatalf("P9.2: %d segments are %d", n, e)
			}
			want := pairs(4, 16+8*n, 0, 2*n, 2*p, log, 2*more)
			// One below leaves the power of two before, and all but two bytes of it again.
			if more < 0 {
				want = pairs(4, 16+8*n, 0, 2*n, p, log-1, p-2)
			}
			if s[:14] != want {
				t.Errorf("P9.2: %d segments begin with %q, not %q", n, s[:14], want)
			}
			checkModelPut(t, apart(n-1))
		}
	}
}

func TestPutTellsListsThatAreNotValid(t *testing.T) {
	wrong := [][]api.Span{
		{{From: -1}},
		{{From: -1, To: 5, Glyph: 7}},
		{{From: 1}},
		{{From: 5, To: 4, Glyph: 7, Step: 1}},
		{{To: 1114112}},
		{{From: 1114112, To: 1114112}},
		{{Step: -1}},
		{{Step: 2}},
		{{To: 3, Glyph: 7, Step: 2}},
		{{Glyph: -1}},
		{{To: 1, Glyph: -1, Step: 1}},
		{{Glyph: 65536}},
		{{To: 1, Glyph: 65535, Step: 1}},
		{{To: 65535, Glyph: 1, Step: 1}},
		{{}, {}},
		{{To: 5, Glyph: 1}, {From: 5, To: 9, Glyph: 2}},
		{{From: 5, To: 9, Glyph: 2}, {To: 4, Glyph: 1}},
		{{To: 1114111}, {From: 1114111, To: 1114111}},
	}
	for _, n := range far {
		wrong = append(wrong, []api.Span{{From: n, To: n}}, []api.Span{{Glyph: n}}, []api.Span{{Step: n}}, []api.Span{{To: 5, Glyph: n, Step: 1}}, []api.Span{{From: n, To: n, Glyph: n, Step: n}}, []api.Span{{From: min(n, 0), To: max(n, 0), Step: 1}})
	}
	for _, l := range wrong {
		checkPut(t, l, "", 0, 0, api.ErrArg)
		// Ahead of what is too great, too, and behind it.
		checkPut(t, append(slices.Clone(l), one(1114111, 65535)), "", 0, 0, api.ErrArg)
		checkPut(t, append([]api.Span{same(70000, 80000, 5)}, l...), "", 0, 0, api.ErrArg)
	}
	for _, g := range []int{0, 1, 65535} {
		checkPut(t, ones(65537, g), "", 0, 0, api.ErrArg)
	}
}

func TestPutOfListsOfAllKinds(t *testing.T) {
	next := source(3)
	told := map[api.Errno]int{}
	for range 3000 {
		from := []int{0, 0, 0, 100, 65400, 65500, 65520, 32700, next(70000)}[next(9)]
		l := someSpans(next, next(14), from)
		if next(8) == 0 {
			l = append([]api.Span{one(0, next(3))}, l...)
		}
		told[checkModelPut(t, l)]++
	}
	if told[api.OK] < 300 || told[api.ErrLong] < 100 || told[api.ErrArg] < 50 {
		t.Errorf("the lists do not tell all results often: %v", told)
	}
}

func TestPutKeepsWhatGetAnswers(t *testing.T) {
	next := source(4)
	for range 1000 {
		var segs []seg
		from := next(300)
		for range next(5) {
			x := seg{from, from + next(6), next(65536), 0}
			segs = append(segs, x)
			from = x.end + 1 + next(30)
		}
		segs = append(segs, seg{65535 - next(40), 65535, next(65536), 2 * next(2)})
		glyphs := make([]int, 40)
		for i := range glyphs {
			glyphs[i] = next(2) * next(65536)
		}
		l, e := segment.Get(table(segs, glyphs...))
		if e != api.OK {
			t.Fatalf("P9.1: %+v is %d", segs, e)
		}
		if e := checkModelPut(t, l); e != api.OK {
			t.Errorf("P9.4: what Get answers is written with %d", e)
		}
	}
}

func TestAnswersShareNoMemory(t *testing.T) {
	s := table([]seg{{5, 9, 65535, 0}, {20, 22, 3, 4}, closing}, 4, 0, 6)
	first, _ := segment.Get(s)
	second, _ := segment.Get(s)
	kept := slices.Clone(second)
	for i := range first {
		first[i] = api.Span{From: -1}
	}
	if !slices.Equal(second, kept) {
		t.Errorf("R2: a change of one answer of Get changed another")
	}
	if again, _ := segment.Get(s); !slices.Equal(again, kept) {
		t.Errorf("R3: Get answers %+v behind a change of its answer", again)
	}
}
