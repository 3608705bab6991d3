package chart_test

import (
	"math"
	"slices"
	"strings"
	"testing"

	"vinculum/api"
	"vinculum/chart"
)

// far are numbers that no rune, glyph or step reaches.
var far = []int{math.MinInt, math.MinInt + 1, math.MinInt32, -1 << 21, 1 << 21, math.MaxInt32, 1 << 32, 1<<32 + 1, 1 << 62, 1<<62 + 1, math.MaxInt - 1, math.MaxInt}

// one is a rune's span, as Get answers it.
func one(c, g int) api.Span { return api.Span{From: c, To: c, Glyph: g, Step: 1} }

// pair is a number's two bytes.
func pair(n int) string { return string([]byte{byte(n >> 8), byte(n)}) }

// pairs are numbers' bytes, one behind the other.
func pairs(l ...int) string {
	var b strings.Builder
	for _, n := range l {
		b.WriteString(pair(n))
	}
	return b.String()
}

// trimmed is a subtable of format 6 that is right.
func trimmed(first int, glyphs ...int) string {
	return pairs(6, 10+2*len(glyphs), 0, first, len(glyphs)) + pairs(glyphs...)
}

// small is a subtable of format 0 with some glyphs, by their runes.
func small(glyphs map[int]int) string {
	b := make([]byte, 256)
	for c, g := range glyphs {
		b[c] = byte(g)
	}
	return pairs(0, 262, 0) + string(b)
}

// isRight is by the words of the chapter's Terms.
func isRight(l []api.Span) bool {
	if len(l) > 65536 {
		return false
	}
	for i, x := range l {
		if x.From < 0 || x.To < x.From || x.To > 1114111 || x.Step != 0 && x.Step != 1 {
			return false
		}
		g := x.Glyph
		for range x.To - x.From + 1 {
			if g < 0 || g > 65535 {
				return false
			}
			if x.Step == 0 {
				break
			}
			g++
		}
		if i > 0 && x.From <= l[i-1].To {
			return false
		}
	}
	return true
}

// glyphOf is by the words of P8.1.
func glyphOf(l []api.Span, c int) int {
	if !isRight(l) {
		return 0
	}
	for _, x := range l {
		if x.From <= c && c <= x.To {
			return x.Glyph + x.Step*(c-x.From)
		}
	}
	return 0
}

// mapped are the runes of a valid list that have a glyph, with it; and the first and the last of them.
func mapped(l []api.Span) (glyphs map[int]int, first, last int) {
	glyphs, first, last = map[int]int{}, math.MaxInt, -1
	for _, x := range l {
		for c := x.From; c <= x.To; c++ {
			if g := x.Glyph + x.Step*(c-x.From); g != 0 {
				glyphs[c] = g
				first, last = min(first, c), max(last, c)
			}
		}
	}
	return glyphs, first, last
}

// modelGet reads a subtable by the words of P8.2, one after the other.
func modelGet(s string) ([]api.Span, api.Errno) {
	integer := func(at int) int { return int(s[at])*256 + int(s[at+1]) }
	if len(s) < 4 {
		return nil, api.ErrMore
	}
	format := integer(0)
	if format != 0 && format != 6 {
		return nil, api.ErrForm
	}
	if format == 6 && len(s) < 10 {
		return nil, api.ErrMore
	}
	length := integer(2)
	if format == 0 && length != 262 || format == 6 && length != 10+2*integer(8) {
		return nil, api.ErrForm
	}
	if len(s) < length {
		return nil, api.ErrMore
	}
	if format == 6 && integer(6)+integer(8) > 65536 {
		return nil, api.ErrForm
	}
	var l []api.Span
	if format == 0 {
		for c := range 256 {
			if g := int(s[6+c]); g != 0 {
				l = append(l, one(c, g))
			}
		}
		return l, api.OK
	}
	for i := range integer(8) {
		if g := integer(10 + 2*i); g != 0 {
			l = append(l, one(integer(6)+i, g))
		}
	}
	return l, api.OK
}

// modelSmall is by the words of P8.3, with its numbers.
func modelSmall(l []api.Span) (string, api.Errno) {
	if !isRight(l) {
		return "", api.ErrArg
	}
	glyphs, _, _ := mapped(l)
	for c, g := range glyphs {
		if c > 255 || g > 255 {
			return "", api.ErrLong
		}
	}
	return small(glyphs), api.OK
}

// modelTrimmed is by the words of P8.3, with its numbers.
func modelTrimmed(l []api.Span) (string, api.Errno) {
	if !isRight(l) {
		return "", api.ErrArg
	}
	glyphs, first, last := mapped(l)
	if len(glyphs) == 0 {
		return trimmed(0), api.OK
	}
	if last > 65535 || last-first+1 > 32762 {
		return "", api.ErrLong
	}
	var all []int
	for c := first; c <= last; c++ {
		all = append(all, glyphs[c])
	}
	return trimmed(first, all...), api.OK
}

// source gives numbers below a bound; the same seed gives the same ones.
func source(seed int) func(int) int {
	bits := uint64(seed)*2862933555777941757 + 3037000493
	return func(bound int) int {
		bits = bits*6364136223846793005 + 1442695040888963407
		return int((bits >> 33) % uint64(bound))
	}
}

// someSpans is a valid list of spans that rise from a rune on, with gaps, and with glyphs up to a greatest one.
func someSpans(next func(int) int, n, from, greatest int) []api.Span {
	var l []api.Span
	for range n {
		x := api.Span{From: from, To: from + []int{0, 0, 1, 2, next(9), next(40)}[next(6)], Step: next(2)}
		top := greatest - x.Step*(x.To-x.From)
		x.Glyph = []int{0, 0, 1, top, next(top + 1)}[next(5)]
		l = append(l, x)
		from = x.To + 1 + []int{0, 0, 1, next(9)}[next(4)]
	}
	return l
}

// valid are lists of all kinds that are.
func valid() [][]api.Span {
	next := source(11)
	l := [][]api.Span{
		nil,
		{},
		{{}},
		{{Step: 1}},
		{{To: 1114111}},
		{{To: 1114111, Glyph: 65535}},
		{{From: 1114111, To: 1114111, Glyph: 65535, Step: 1}},
		{{To: 65535, Step: 1}},
		{{From: 1, To: 65535, Glyph: 1, Step: 1}},
		{{From: 1048576, To: 1114111, Step: 1}},
		{{From: 10, To: 12, Glyph: 5, Step: 1}, {From: 13, To: 20, Glyph: 9}, {From: 22, To: 22, Step: 1}, {From: 30, To: 31, Step: 1}},
	}
	for i := range 300 {
		l = append(l, someSpans(next, next(12), next(300), []int{40, 255, 256, 65535}[i%4]))
	}
	return l
}

// wrong are lists that are not valid, each by one number alone.
func wrong() [][]api.Span {
	l := [][]api.Span{
		{{From: -1}},
		{{From: -1, To: -1}},
		{{From: -1, To: 5, Glyph: 7}},
		{{From: 1}},
		{{From: 5, To: 4, Glyph: 7, Step: 1}},
		{{From: 1114111, To: 1114110}},
		{{To: 1114112}},
		{{From: 1114111, To: 1114112, Glyph: 3, Step: 1}},
		{{From: 1114112, To: 1114112}},
		{{Step: -1}},
		{{To: 3, Glyph: 7, Step: -1}},
		{{Step: 2}},
		{{To: 3, Glyph: 7, Step: 2}},
		{{Glyph: -1}},
		{{To: 1, Glyph: -1, Step: 1}},
		{{Glyph: 65536}},
		{{Glyph: 65536, Step: 1}},
		{{To: 1, Glyph: 65536}},
		{{To: 1, Glyph: 65535, Step: 1}},
		{{To: 65536, Step: 1}},
		{{To: 65535, Glyph: 1, Step: 1}},
		{{To: 1114111, Step: 1}},
		{{}, {}},
		{{To: 5, Glyph: 1}, {From: 5, To: 9, Glyph: 2}},
		{{To: 5, Glyph: 1}, {From: 4, To: 9, Glyph: 2}},
		{{From: 5, To: 9, Glyph: 2}, {To: 4, Glyph: 1}},
		{{To: 1114111}, {From: 1114111, To: 1114111}},
		{{From: 3, To: 7}, {From: 3, To: 7}},
	}
	for _, n := range far {
		l = append(l, []api.Span{{From: n, To: n}}, []api.Span{{Glyph: n}}, []api.Span{{Step: n}}, []api.Span{{To: 1, Step: n}}, []api.Span{{To: 5, Glyph: n, Step: 1}}, []api.Span{{From: n, To: n, Glyph: n, Step: n}})
		if n < 0 {
			l = append(l, []api.Span{{From: n}}, []api.Span{{From: n, To: math.MaxInt, Step: 1}}, []api.Span{{To: n}})
		} else {
			l = append(l, []api.Span{{To: n}}, []api.Span{{To: n, Step: 1}}, []api.Span{{To: n, Glyph: n, Step: 1}}, []api.Span{{From: n}})
		}
	}
	return l
}

func shortList(l []api.Span) []api.Span { return l[:min(len(l), 20)] }

func shortText(s string) string { return s[:min(len(s), 60)] }

func checkIs(t *testing.T, l []api.Span, want bool) {
	t.Helper()
	before := slices.Clone(l)
	if chart.Is(l) != want {
		t.Errorf("P8.1: Is(%+v, of %d) is %v", shortList(l), len(l), !want)
	}
	if !slices.Equal(l, before) {
		t.Errorf("R2: Is changed its spans from %+v to %+v", shortList(before), shortList(l))
	}
}

func checkLook(t *testing.T, l []api.Span, c, want int) {
	t.Helper()
	before := slices.Clone(l)
	if g := chart.Look(l, c); g != want {
		t.Errorf("P8.1: Look(%+v, of %d, %d) is %d, not %d", shortList(l), len(l), c, g, want)
	}
	if !slices.Equal(l, before) {
		t.Errorf("R2: Look changed its spans from %+v to %+v", shortList(before), shortList(l))
	}
}

func checkGet(t *testing.T, s string, want []api.Span, wantE api.Errno) {
	t.Helper()
	l, e := chart.Get(s)
	if !slices.Equal(l, want) || e != wantE {
		t.Errorf("P8.2: Get(%q, of %d bytes) is %+v, of %d, %d, not %+v, of %d, %d", shortText(s), len(s), shortList(l), len(l), e, shortList(want), len(want), wantE)
	}
	if !isRight(l) {
		t.Errorf("P8.4: what Get(%q, of %d bytes) answers is not valid: %+v", shortText(s), len(s), shortList(l))
	}
}

// checkModel holds Get against the model.
func checkModel(t *testing.T, s string) {
	t.Helper()
	want, e := modelGet(s)
	checkGet(t, s, want, e)
}

// checkPut holds one of the two against what is asked, and reads again what it writes.
func checkPut(t *testing.T, name string, put func([]api.Span) (string, api.Errno), l []api.Span, want string, wantE api.Errno) {
	t.Helper()
	before := slices.Clone(l)
	s, e := put(l)
	if s != want || e != wantE {
		t.Errorf("P8.3: %s(%+v, of %d) is %q, of %d bytes, %d, not %q, of %d, %d", name, shortList(l), len(l), shortText(s), len(s), e, shortText(want), len(want), wantE)
	}
	if !slices.Equal(l, before) {
		t.Errorf("R2: %s changed its spans from %+v to %+v", name, shortList(before), shortList(l))
	}
	if e != api.OK {
		return
	}
	again, e := chart.Get(s)
	if e != api.OK || !chart.Is(again) {
		t.Errorf("P8.4: what %s(%+v) writes is read as %+v, %d", name, shortList(l), shortList(again), e)
	}
	was, _, _ := mapped(l)
	is, _, _ := mapped(again)
	if len(was) != len(is) {
		t.Errorf("P8.4: of %s(%+v) %d runes with a glyph are %d when read again", name, shortList(l), len(was), len(is))
	}
	for c, g := range was {
		if is[c] != g {
			t.Errorf("P8.4: of %s(%+v) the glyph of %d is %d, not %d", name, shortList(l), c, is[c], g)
			return
		}
	}
}

func checkSmall(t *testing.T, l []api.Span, want string, wantE api.Errno) {
	t.Helper()
	checkPut(t, "PutSmall", chart.PutSmall, l, want, wantE)
}

func checkTrimmed(t *testing.T, l []api.Span, want string, wantE api.Errno) {
	t.Helper()
	checkPut(t, "PutTrimmed", chart.PutTrimmed, l, want, wantE)
}

// checkModelPuts holds both against the models.
func checkModelPuts(t *testing.T, l []api.Span) {
	t.Helper()
	s, e := modelSmall(l)
	checkSmall(t, l, s, e)
	s, e = modelTrimmed(l)
	checkTrimmed(t, l, s, e)
}

// ones are n spans of a rune each, from 0 on, all with a glyph.
func ones(n, g int) []api.Span {
	l := make([]api.Span, n)
	for i := range l {
		l[i] = one(i, g)
	}
	return l
}

func TestIsOfListsOfAllLengths(t *testing.T) {
	for n, want := range map[int]bool{0: true, 1: true, 2: true, 255: true, 65535: true, 65536: true, 65537: false, 65538: false, 131072: false} {
		checkIs(t, ones(n, 3), want)
		checkIs(t, ones(n, 0), want)
	}
	checkIs(t, nil, true)
	checkIs(t, make([]api.Span, 65537), false)
	// A wrong span is told wherever it stands.
	for _, at := range []int{0, 1, 32767, 65534, 65535} {
		l := ones(65536, 3)
		l[at].Step = 2
		checkIs(t, l, false)
	}
}

func TestIsOfValidAndWrongLists(t *testing.T) {
	for _, l := range valid() {
		checkIs(t, l, true)
	}
	for _, l := range wrong() {
		checkIs(t, l, false)
		behind := []api.Span{{From: 1114111, To: 1114111}}
		checkIs(t, append(slices.Clone(l), behind...), false)
	}
}

func TestIsOfEachNumberAtItsEdges(t *testing.T) {
	froms := []int{-2, -1, 0, 1, 2, 65535, 65536, 1114110, 1114111, 1114112}
	for _, from := range froms {
		for _, more := range []int{-2, -1, 0, 1, 2, 65534, 65535, 65536} {
			for _, step := range []int{-2, -1, 0, 1, 2, 3} {
				for _, g := range []int{-65535, -2, -1, 0, 1, 2, 65533, 65534, 65535, 65536, 65537} {
					l := []api.Span{{From: from, To: from + more, Glyph: g, Step: step}}
					checkIs(t, l, isRight(l))
				}
			}
		}
	}
}

func TestIsOfNeighbours(t *testing.T) {
	for _, to := range []int{0, 5, 255, 256, 65535, 65536, 1114110} {
		for _, step := range []int{0, 1} {
			before := api.Span{From: max(to-3, 0), To: to, Glyph: 7, Step: step}
			checkIs(t, []api.Span{before, {From: to, To: to + 1, Glyph: 8, Step: step}}, false)
			checkIs(t, []api.Span{before, {From: to + 1, To: to + 1, Glyph: 8, Step: step}}, true)
			checkIs(t, []api.Span{{From: to + 1, To: to + 1, Glyph: 8, Step: step}, before}, false)
			if to < 1114110 {
				checkIs(t, []api.Span{before, {From: to + 2, To: to + 2, Glyph: 8}}, true)
				checkIs(t, []api.Span{before, {From: to + 1, To: to + 1}, {From: to + 1, To: to + 2}}, false)
				checkIs(t, []api.Span{before, {From: to + 1, To: to + 1}, {From: to + 2, To: to + 2}}, true)
			}
		}
	}
}

func TestIsOfListsWithOneNumberChanged(t *testing.T) {
	next := source(1)
	right, not := 0, 0
	for range 20000 {
		l := someSpans(next, 1+next(6), next(300), 300)
		x := &l[next(len(l))]
		n := []int{-1, 0, 1, 2, 300, 65535, 65536, 1114111, 1114112, far[next(len(far))]}[next(10)]
		switch next(4) {
		case 0:
			x.From = n
		case 1:
			x.To = n
		case 2:
			x.Glyph = n
		case 3:
			x.Step = n
		}
		want := isRight(l)
		checkIs(t, l, want)
		if want {
			right++
		} else {
			not++
		}
	}
	if right < 1000 || not < 1000 {
		t.Errorf("%d of the lists are valid, and %d are not", right, not)
	}
}

func TestLookAtTheEdgesOfSpans(t *testing.T) {
	l := []api.Span{{From: 10, To: 12, Glyph: 5, Step: 1}, {From: 13, To: 20, Glyph: 9}, {From: 22, To: 22, Glyph: 65535, Step: 1}, {From: 30, To: 32, Step: 1}, {From: 40, To: 50}, {From: 65530, To: 65540, Glyph: 300, Step: 1}, {From: 1114110, To: 1114111, Glyph: 65534, Step: 1}}
	for c, want := range map[int]int{
		-1: 0, 0: 0, 9: 0, 10: 5, 11: 6, 12: 7, 13: 9, 14: 9, 19: 9, 20: 9, 21: 0, 22: 65535, 23: 0,
		29: 0, 30: 0, 31: 1, 32: 2, 33: 0, 40: 0, 45: 0, 50: 0, 65529: 0, 65530: 300, 65535: 305, 65536: 306, 65540: 310, 65541: 0,
		1114109: 0, 1114110: 65534, 1114111: 65535, 1114112: 0, 1114113: 0,
	} {
		checkLook(t, l, c, want)
	}
	for _, c := range far {
		checkLook(t, l, c, 0)
	}
}

func TestLookOfEveryRuneOfValidLists(t *testing.T) {
	for _, l := range valid() {
		for _, c := range append([]int{-65536, -2, -1, 65535, 65536, 1114110, 1114111, 1114112}, far...) {
			checkLook(t, l, c, glyphOf(l, c))
		}
		for _, x := range l {
			for _, c := range []int{x.From - 1, x.From, x.From + 1, x.To - 1, x.To, x.To + 1} {
				checkLook(t, l, c, glyphOf(l, c))
			}
		}
		if len(l) > 1 {
			for c := range l[len(l)-1].To + 3 {
				checkLook(t, l, c, glyphOf(l, c))
			}
		}
	}
}

func TestLookInTheLongestLists(t *testing.T) {
	l := make([]api.Span, 65536)
	for i := range l {
		l[i] = api.Span{From: 17 * i, To: 17*i + i%16, Glyph: i / 2, Step: i % 2}
	}
	for i := 0; i < len(l); i += 257 {
		x := l[i]
		checkLook(t, l, x.From, x.Glyph)
		checkLook(t, l, x.To, x.Glyph+x.Step*(x.To-x.From))
		checkLook(t, l, x.From+16, 0)
		checkLook(t, l, x.From-1, 0)
	}
	checkLook(t, l, 17*65535+15, 65535/2+15)
	checkLook(t, l, 17*65535+16, 0)
	many := append(l, api.Span{From: 1114111, To: 1114111, Glyph: 4})
	checkLook(t, many, 17*65535, 0)
	checkLook(t, many, 1114111, 0)
	checkLook(t, ones(65536, 3), 65535, 3)
	checkLook(t, ones(65537, 3), 5, 0)
}

func TestLookInListsThatAreNotValid(t *testing.T) {
	for _, l := range wrong() {
		runes := append([]int{-2, -1, 0, 1, 2, 3, 4, 5, 6, 9, 1114110, 1114111, 1114112}, far...)
		for _, x := range l {
			runes = append(runes, x.From, x.To)
		}
		for _, c := range runes {
			checkLook(t, l, c, 0)
		}
		// A valid span ahead of a wrong one has no glyphs either.
		if l[0].From > 1 {
			checkLook(t, append([]api.Span{one(1, 77)}, l...), 1, 0)
		}
	}
	checkLook(t, []api.Span{one(1, 77), {From: 9, To: 8}}, 1, 0)
	checkLook(t, []api.Span{{From: 9, To: 8}, one(10, 77)}, 10, 0)
}

func TestGetOfFewBytes(t *testing.T) {
	for _, s := range []string{"", "\x00", "\x00\x06", "\x00\x00\x01", "\x00\x06\x00", "\x00\x05\x00", "\xff\xff\xff"} {
		checkGet(t, s, nil, api.ErrMore)
	}
	checkGet(t, "\x00\x05\x00\x00", nil, api.ErrForm)
	checkGet(t, "\x00\x05\x00\x00\x00", nil, api.ErrForm)
	// Format 0 asks for its length ahead of its bytes, and format 6 behind those of its head.
	checkGet(t, "\x00\x00\x01\x06", nil, api.ErrMore)
	checkGet(t, "\x00\x00\x01\x06\x00", nil, api.ErrMore)
	checkGet(t, "\x00\x00\x01\x05", nil, api.ErrForm)
	checkGet(t, "\x00\x00\x01\x07\x00", nil, api.ErrForm)
	checkGet(t, "\x00\x06\x00\x0a", nil, api.ErrMore)
	checkGet(t, "\x00\x06\x00\x0b", nil, api.ErrMore)
	checkGet(t, "\x00\x06\xff\xff\x00", nil, api.ErrMore)
	checkGet(t, "\x00\x06\x00\x0b\x00\x00\x00\x00\x00", nil, api.ErrMore)
	checkGet(t, "\x00\x06\x00\x0a\x00\x00\x00\x00\x00", nil, api.ErrMore)
	checkGet(t, "\x00\x06\x00\x0a\x00\x00\x00\x00\x00\x00", nil, api.OK)
	checkGet(t, "\x00\x06\x00\x0b\x00\x00\x00\x00\x00\x00", nil, api.ErrForm)
}

func TestGetOfEveryFormat(t *testing.T) {
	rest := "\x01\x06" + strings.Repeat("\x01", 300)
	for format := range 65536 {
		s := pair(format) + rest
		if format == 0 {
			if l, e := chart.Get(s); len(l) != 256 || e != api.OK {
				t.Errorf("P8.2: format 0 is %d spans, %d", len(l), e)
			}
			continue
		}
		checkGet(t, s, nil, api.ErrForm)
	}
	// Format 6 with a head that is its own.
	checkGet(t, trimmed(5, 6), []api.Span{one(5, 6)}, api.OK)
	for _, format := range []int{1, 4, 5, 7, 12, 13, 256, 262, 1536, 1542, 65535} {
		checkGet(t, pair(format)+trimmed(5, 6)[2:], nil, api.ErrForm)
		checkGet(t, pair(format)+trimmed(5, 6)[2:4], nil, api.ErrForm)
	}
}

func TestGetOfEveryLength(t *testing.T) {
	few := strings.Repeat("\x00", 300)
	for length := range 65536 {
		full, short := api.ErrForm, api.ErrForm
		if length == 262 {
			full, short = api.OK, api.ErrMore
		}
		checkGet(t, "\x00\x00"+pair(length)+few, nil, full)
		checkGet(t, "\x00\x00"+pair(length), nil, short)
	}
	bytes := strings.Repeat("\x00", 65536)
	for _, count := range []int{0, 1, 2, 127, 128, 255, 256, 32761, 32762} {
		for _, more := range []int{-10, -2, -1, 0, 1, 2} {
			want := api.ErrForm
			if more == 0 {
				want = api.OK
			}
			if length := 10 + 2*count + more; length < 65536 {
				checkGet(t, pairs(6, length, 0, 0, count)+bytes, nil, want)
			}
		}
	}
	// A count whose length no field holds is not taken as what is left of it.
	for _, count := range []int{32763, 32764, 32768, 32773, 65535} {
		for _, length := range []int{0, 10 + 2*count - 65536, 65535} {
			checkGet(t, pairs(6, length, 0, 0, count)+bytes+bytes+bytes, nil, api.ErrForm)
		}
	}
}

func TestGetOfEveryNumberOfBytes(t *testing.T) {
	glyphs := map[int]int{0: 1, 5: 255, 128: 128, 255: 7}
	all := small(glyphs) + "\x01\x02\x03"
	want := []api.Span{one(0, 1), one(5, 255), one(128, 128), one(255, 7)}
	for n := range len(all) + 1 {
		checkModel(t, all[:n])
		if n < 262 {
			checkGet(t, all[:n], nil, api.ErrMore)
		} else {
			checkGet(t, all[:n], want, api.OK)
		}
	}
	all = trimmed(300, 1, 0, 65535, 258) + "\x01\x02\x03"
	want = []api.Span{one(300, 1), one(302, 65535), one(303, 258)}
	for n := range len(all) + 1 {
		if n < 18 {
			checkGet(t, all[:n], nil, api.ErrMore)
		} else {
			checkGet(t, all[:n], want, api.OK)
		}
	}
	checkGet(t, small(glyphs)+strings.Repeat("\xff", 70000), []api.Span{one(0, 1), one(5, 255), one(128, 128), one(255, 7)}, api.OK)
	checkGet(t, trimmed(300, 1)+strings.Repeat("\xff", 70000), []api.Span{one(300, 1)}, api.OK)
}

func TestGetOfFirstAndCount(t *testing.T) {
	for _, k := range []struct {
		first, count int
		want         api.Errno
	}{
		{0, 0, api.OK}, {65535, 0, api.OK}, {65534, 1, api.OK}, {65535, 1, api.OK}, {65535, 2, api.ErrForm}, {65534, 2, api.OK}, {65534, 3, api.ErrForm}, {65533, 2, api.OK},
		{32773, 32762, api.OK}, {32774, 32762, api.OK}, {32775, 32762, api.ErrForm}, {32776, 32762, api.ErrForm}, {65535, 32762, api.ErrForm}, {0, 32762, api.OK},
	} {
		glyphs := slices.Repeat([]int{9}, k.count)
		s := trimmed(k.first, glyphs...)
		checkModel(t, s)
		l, e := chart.Get(s)
		if e != k.want || e == api.OK && len(l) != k.count {
			t.Errorf("P8.2: first %d and count %d are %d spans, %d, not %d", k.first, k.count, len(l), e, k.want)
		}
		// A wrong length is told first, then bytes that are missing, and then runes that are too great.
		if k.count > 0 {
			checkGet(t, s[:len(s)-1], nil, api.ErrMore)
			checkGet(t, s[:10], nil, api.ErrMore)
			checkGet(t, s[:2]+pair(10+2*k.count-1)+s[4:], nil, api.ErrForm)
			checkGet(t, s[:2]+pair(10+2*k.count-1)+s[4:10], nil, api.ErrForm)
		}
	}
}

func TestGetLeavesOutRunesWithoutAGlyph(t *testing.T) {
	checkGet(t, trimmed(7, 0, 5, 6), []api.Span{one(8, 5), one(9, 6)}, api.OK)
	checkGet(t, trimmed(7, 5, 0, 6), []api.Span{one(7, 5), one(9, 6)}, api.OK)
	checkGet(t, trimmed(7, 5, 6, 0), []api.Span{one(7, 5), one(8, 6)}, api.OK)
	checkGet(t, trimmed(7, 0, 0, 0), nil, api.OK)
	checkGet(t, trimmed(7), nil, api.OK)
	checkGet(t, trimmed(7, 5, 5, 4), []api.Span{one(7, 5), one(8, 5), one(9, 4)}, api.OK)
	checkGet(t, trimmed(65534, 256, 1), []api.Span{one(65534, 256), one(65535, 1)}, api.OK)
	checkGet(t, small(nil), nil, api.OK)
	for c := range 256 {
		checkGet(t, small(map[int]int{c: 256 - max(c, 1)}), []api.Span{one(c, 256-max(c, 1))}, api.OK)
		b := []byte(pairs(0, 262, 0) + strings.Repeat("\x21", 256))
		b[6+c] = 0
		l, e := chart.Get(string(b))
		if len(l) != 255 || e != api.OK || slices.ContainsFunc(l, func(x api.Span) bool { return x.From == c }) {
			t.Errorf("P8.2: without the glyph of %d there are %d spans, %d", c, len(l), e)
		}
	}
}

func TestGetReadsEveryGlyph(t *testing.T) {
	for g := range 65536 {
		want := []api.Span{one(40, g)}
		if g == 0 {
			want = nil
		}
		checkGet(t, trimmed(40, g), want, api.OK)
		if g < 256 {
			checkGet(t, small(map[int]int{40: g}), want, api.OK)
		}
	}
	for first := range 65536 {
		checkGet(t, trimmed(first, 3), []api.Span{one(first, 3)}, api.OK)
	}
}

func TestGetIgnoresTheLanguage(t *testing.T) {
	six, nought := trimmed(7, 5, 0, 6), small(map[int]int{3: 4})
	for language := range 65536 {
		checkGet(t, six[:4]+pair(language)+six[6:], []api.Span{one(7, 5), one(9, 6)}, api.OK)
		checkGet(t, nought[:4]+pair(language)+nought[6:], []api.Span{one(3, 4)}, api.OK)
	}
}

func TestGetOfSubtablesOfAllKinds(t *testing.T) {
	next := source(2)
	told := map[api.Errno]int{}
	for range 20000 {
		var s string
		if next(4) == 0 {
			glyphs := map[int]int{}
			for range next(20) {
				glyphs[next(256)] = next(256)
			}
			s = small(glyphs)
		} else {
			glyphs := make([]int, next(20))
			for i := range glyphs {
				glyphs[i] = []int{0, 1, 255, 256, 65535, next(65536)}[next(6)]
			}
			s = trimmed([]int{0, 1, 255, 65530, 65535, next(65536)}[next(6)], glyphs...)
		}
		s += strings.Repeat("\x07", next(3))
		b := []byte(s)
		if next(2) == 0 {
			b[next(min(len(b), 12))] = byte([]int{0, 1, 6, 10, 255, next(256)}[next(6)])
		}
		if next(4) == 0 {
			b = b[:next(len(b)+1)]
		}
		checkModel(t, string(b))
		_, e := modelGet(string(b))
		told[e]++
	}
	if told[api.OK] < 1000 || told[api.ErrForm] < 1000 || told[api.ErrMore] < 1000 {
		t.Errorf("the subtables do not tell all results often: %v", told)
	}
}

func TestGetAnswersNewMemory(t *testing.T) {
	for _, s := range []string{trimmed(7, 5, 6), small(map[int]int{7: 5, 8: 6})} {
		l, _ := chart.Get(s)
		l[0].Glyph, l[1].From = 99, 99
		checkGet(t, s, []api.Span{one(7, 5), one(8, 6)}, api.OK)
	}
}

func TestPutSmallWritesFormatNought(t *testing.T) {
	zeros := func(n int) string { return strings.Repeat("\x00", n) }
	head := "\x00\x00\x01\x06\x00\x00"
	checkSmall(t, nil, head+zeros(256), api.OK)
	checkSmall(t, []api.Span{}, head+zeros(256), api.OK)
	checkSmall(t, []api.Span{{To: 1114111}}, head+zeros(256), api.OK)
	checkSmall(t, []api.Span{one(0, 1)}, head+"\x01"+zeros(255), api.OK)
	checkSmall(t, []api.Span{one(255, 255)}, head+zeros(255)+"\xff", api.OK)
	checkSmall(t, []api.Span{{From: 10, To: 12, Step: 1}, {From: 14, To: 15, Glyph: 200}, {From: 20, To: 30}}, head+zeros(11)+"\x01\x02\x00\xc8\xc8"+zeros(240), api.OK)
	all := make([]byte, 256)
	for i := range all {
		all[i] = byte(i)
	}
	checkSmall(t, []api.Span{{To: 255, Step: 1}}, head+string(all), api.OK)
	checkSmall(t, []api.Span{{To: 255, Glyph: 255}}, head+strings.Repeat("\xff", 256), api.OK)
}

func TestPutSmallTellsRunesAndGlyphsThatAreTooGreat(t *testing.T) {
	for _, k := range []struct {
		l    []api.Span
		want api.Errno
	}{
		{[]api.Span{one(255, 1)}, api.OK},
		{[]api.Span{one(255, 0)}, api.OK},
		{[]api.Span{one(256, 1)}, api.ErrLong},
		{[]api.Span{one(256, 0)}, api.OK},
		{[]api.Span{{From: 256, To: 256, Glyph: 1}}, api.ErrLong},
		{[]api.Span{{From: 256, To: 256}}, api.OK},
		{[]api.Span{{From: 255, To: 256, Glyph: 1}}, api.ErrLong},
		{[]api.Span{{From: 255, To: 256}}, api.OK},
		{[]api.Span{{From: 255, To: 256, Step: 1}}, api.ErrLong},
		{[]api.Span{{From: 254, To: 255, Step: 1}}, api.OK},
		{[]api.Span{{From: 256, To: 257, Step: 1}}, api.ErrLong},
		{[]api.Span{{From: 200, To: 1114111}}, api.OK},
		{[]api.Span{{From: 1114111, To: 1114111, Glyph: 1}}, api.ErrLong},
		{[]api.Span{one(3, 255)}, api.OK},
		{[]api.Span{one(3, 256)}, api.ErrLong},
		{[]api.Span{one(3, 65535)}, api.ErrLong},
		{[]api.Span{{From: 3, To: 9, Glyph: 255}}, api.OK},
		{[]api.Span{{From: 3, To: 9, Glyph: 256}}, api.ErrLong},
		{[]api.Span{{From: 3, To: 4, Glyph: 254, Step: 1}}, api.OK},
		{[]api.Span{{From: 3, To: 4, Glyph: 255, Step: 1}}, api.ErrLong},
		{[]api.Span{one(3, 256), one(4, 1)}, api.ErrLong},
		{[]api.Span{one(3, 1), one(4, 256), one(5, 1)}, api.ErrLong},
		{[]api.Span{one(3, 1), one(4, 1), one(5, 256)}, api.ErrLong},
		{[]api.Span{one(3, 1), one(256, 1), one(300, 0)}, api.ErrLong},
		{[]api.Span{one(3, 1), one(256, 0), one(300, 1)}, api.ErrLong},
		{[]api.Span{one(3, 1), one(256, 0), one(300, 0)}, api.OK},
		{[]api.Span{one(255, 0), one(256, 0), {From: 257, To: 1114111}}, api.OK},
	} {
		if _, e := chart.PutSmall(k.l); e != k.want {
			t.Errorf("P8.3: PutSmall(%+v) is %d, not %d", k.l, e, k.want)
		}
		checkModelPuts(t, k.l)
	}
}

func TestPutTrimmedWritesFormatSix(t *testing.T) {
	none := "\x00\x06\x00\x0a\x00\x00\x00\x00\x00\x00"
	for _, l := range [][]api.Span{nil, {}, {{}}, {{Step: 1}}, {one(77, 0)}, {{From: 5, To: 9}}, {{To: 1114111}}, {one(5, 0), {From: 6, To: 8}, one(70000, 0)}} {
		checkTrimmed(t, l, none, api.OK)
	}
	checkTrimmed(t, []api.Span{one(0, 1)}, "\x00\x06\x00\x0c\x00\x00\x00\x00\x00\x01\x00\x01", api.OK)
	checkTrimmed(t, []api.Span{one(258, 772)}, "\x00\x06\x00\x0c\x00\x00\x01\x02\x00\x01\x03\x04", api.OK)
	checkTrimmed(t, []api.Span{one(65535, 65535)}, "\x00\x06\x00\x0c\x00\x00\xff\xff\x00\x01\xff\xff", api.OK)
	// Runes without a glyph at either end are left out, but those between are 0.
	checkTrimmed(t, []api.Span{{From: 10, To: 12, Step: 1}, {From: 14, To: 15, Glyph: 200}, {From: 20, To: 30}}, trimmed(11, 1, 2, 0, 200, 200), api.OK)
	checkTrimmed(t, []api.Span{one(3, 0), one(5, 9), one(7, 0), one(9, 8), one(11, 0)}, trimmed(5, 9, 0, 0, 0, 8), api.OK)
	checkTrimmed(t, []api.Span{{To: 3}, {From: 4, To: 6, Step: 1}, {From: 7, To: 8, Step: 1}, {From: 9, To: 9, Step: 1}}, trimmed(5, 1, 2, 0, 1), api.OK)
	checkTrimmed(t, []api.Span{{To: 1, Step: 1}}, trimmed(1, 1), api.OK)
	checkTrimmed(t, []api.Span{{To: 2, Glyph: 4}, {From: 3, To: 1114111}}, trimmed(0, 4, 4, 4), api.OK)
}

func TestPutTrimmedTellsRunesThatAreTooGreat(t *testing.T) {
	for _, k := range []struct {
		l    []api.Span
		want api.Errno
	}{
		{[]api.Span{one(65535, 1)}, api.OK},
		{[]api.Span{one(65535, 0)}, api.OK},
		{[]api.Span{one(65536, 1)}, api.ErrLong},
		{[]api.Span{one(65536, 0)}, api.OK},
		{[]api.Span{one(65535, 1), one(65536, 0)}, api.OK},
		{[]api.Span{one(65535, 0), one(65536, 1)}, api.ErrLong},
		{[]api.Span{{From: 65535, To: 65536, Glyph: 1}}, api.ErrLong},
		{[]api.Span{{From: 65535, To: 65536}}, api.OK},
		{[]api.Span{{From: 65535, To: 65536, Step: 1}}, api.ErrLong},
		{[]api.Span{{From: 65534, To: 65535, Step: 1}}, api.OK},
		{[]api.Span{{From: 65536, To: 65537, Step: 1}}, api.ErrLong},
		{[]api.Span{one(5, 1), {From: 65536, To: 1114111}}, api.OK},
		{[]api.Span{one(5, 1), {From: 65536, To: 70000}, one(1114111, 1)}, api.ErrLong},
		{[]api.Span{{From: 1114111, To: 1114111, Glyph: 65535}}, api.ErrLong},
		{[]api.Span{{From: 65000, To: 65600, Glyph: 1, Step: 1}, {From: 65601, To: 1114111}}, api.ErrLong},
	} {
		if _, e := chart.PutTrimmed(k.l); e != k.want {
			t.Errorf("P8.3: PutTrimmed(%+v) is %d, not %d", k.l, e, k.want)
		}
		checkModelPuts(t, k.l)
	}
}

func TestPutTrimmedTellsCountsThatAreTooGreat(t *testing.T) {
	for _, first := range []int{0, 1, 300, 32773, 32774} {
		for _, count := range []int{32761, 32762, 32763, 32764} {
			want := api.OK
			if count > 32762 || first+count > 65536 {
				want = api.ErrLong
			}
			last := first + count - 1
			for _, l := range [][]api.Span{
				{one(first, 1), one(last, 2)},
				{{From: first, To: last, Glyph: 65535}},
				{{From: first, To: last, Glyph: 1, Step: 1}},
				{{From: first, To: first + 5, Glyph: 9}, {From: first + 7, To: last, Step: 1}, {From: last + 1, To: 1114111}},
			} {
				if _, e := chart.PutTrimmed(l); e != want {
					t.Errorf("P8.3: PutTrimmed(%+v), of %d runes from %d on, is %d, not %d", l, count, first, e, want)
				}
				checkModelPuts(t, l)
			}
		}
	}
	// A rune without a glyph is not counted, neither ahead nor behind.
	checkModelPuts(t, []api.Span{{To: 32762, Step: 1}})
	checkModelPuts(t, []api.Span{{To: 32763, Step: 1}})
	checkModelPuts(t, []api.Span{{To: 99}, {From: 100, To: 32861, Glyph: 4}, {From: 32862, To: 40000}})
	if _, e := chart.PutTrimmed([]api.Span{{To: 32762, Step: 1}}); e != api.OK {
		t.Errorf("P8.3: 32762 runes behind one without a glyph are %d", e)
	}
	if _, e := chart.PutTrimmed([]api.Span{{To: 32763, Step: 1}}); e != api.ErrLong {
		t.Errorf("P8.3: 32763 runes behind one without a glyph are %d", e)
	}
}

func TestPutsTellListsThatAreNotValid(t *testing.T) {
	for _, l := range wrong() {
		checkSmall(t, l, "", api.ErrArg)
		checkTrimmed(t, l, "", api.ErrArg)
		// Ahead of what is too great, too.
		great := append(slices.Clone(l), one(1114111, 65535))
		checkSmall(t, great, "", api.ErrArg)
		checkTrimmed(t, great, "", api.ErrArg)
	}
	for _, g := range []int{0, 1, 65535} {
		checkSmall(t, ones(65537, g), "", api.ErrArg)
		checkTrimmed(t, ones(65537, g), "", api.ErrArg)
	}
	checkModelPuts(t, ones(65536, 0))
	checkModelPuts(t, ones(65536, 1))
	checkModelPuts(t, append(ones(256, 1), ones(65536, 0)[256:]...))
}

func TestPutsOfListsOfAllKinds(t *testing.T) {
	next := source(3)
	toldSmall, toldTrimmed := map[api.Errno]int{}, map[api.Errno]int{}
	for i := range 6000 {
		from := []int{0, 0, 0, 100, 200, 250, 65400, 65500, 32700, next(70000)}[next(10)]
		l := someSpans(next, next(12), from, []int{40, 255, 255, 256, 65535}[i%5])
		if next(8) == 0 {
			l = append([]api.Span{one(0, next(3))}, l...)
		}
		checkModelPuts(t, l)
		_, e := modelSmall(l)
		toldSmall[e]++
		_, e = modelTrimmed(l)
		toldTrimmed[e]++
	}
	for _, told := range []map[api.Errno]int{toldSmall, toldTrimmed} {
		if told[api.OK] < 300 || told[api.ErrLong] < 300 || told[api.ErrArg] < 100 {
			t.Errorf("the lists do not tell all results often: %v", told)
		}
	}
}

func TestPutsKeepWhatGetAnswers(t *testing.T) {
	next := source(4)
	for range 2000 {
		glyphs := make([]int, 1+next(60))
		for i := range glyphs {
			glyphs[i] = next(2) * next(65536)
		}
		glyphs[0], glyphs[len(glyphs)-1] = 1+next(9), 1+next(9)
		s := trimmed(next(65536-len(glyphs)), glyphs...)
		l, _ := chart.Get(s)
		checkTrimmed(t, l, s, api.OK)
		some := map[int]int{}
		for range next(60) {
			some[next(256)] = next(256)
		}
		s = small(some)
		l, _ = chart.Get(s)
		checkSmall(t, l, s, api.OK)
	}
}
