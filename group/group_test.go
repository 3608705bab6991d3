package group_test

import (
	"math"
	"slices"
	"strings"
	"testing"

	"vinculum/api"
	"vinculum/chart"
	"vinculum/group"
)

// far are numbers that no rune, glyph or step reaches.
var far = []int{math.MinInt, math.MinInt + 1, math.MinInt32, -1 << 21, 1 << 21, math.MaxInt32, 1 << 32, 1<<32 + 1, 1 << 62, 1<<62 + 1, math.MaxInt - 1, math.MaxInt}

// great are numbers of a field of four bytes that no rune, glyph or length reaches; as signed numbers those from 2147483648 on are below 0.
var great = []int{1 << 24, 2147483647, 2147483648, 2147483649, 4294967294, 4294967295}

// rising is a span whose glyphs rise.
func rising(from, to, g int) api.Span { return api.Span{From: from, To: to, Glyph: g, Step: 1} }

// same is a span whose glyphs are all the same.
func same(from, to, g int) api.Span { return api.Span{From: from, To: to, Glyph: g} }

// pair is a number's two bytes.
func pair(n int) string { return string([]byte{byte(n >> 8), byte(n)}) }

// quads are numbers' bytes, four for each, one behind the other.
func quads(l ...int) string {
	var b strings.Builder
	for _, n := range l {
		b.WriteString(pair(n>>16) + pair(n))
	}
	return b.String()
}

// row is a group's numbers.
type row struct{ first, last, glyph int }

func bytesOf(l []row) string {
	var b strings.Builder
	for _, x := range l {
		b.WriteString(quads(x.first, x.last, x.glyph))
	}
	return b.String()
}

// table is a subtable whose length is right.
func table(format int, l ...row) string {
	return pair(format) + pair(0) + quads(16+12*len(l), 0, len(l)) + bytesOf(l)
}

// with is a text whose bytes from a place on are others.
func with(s string, at int, other string) string { return s[:at] + other + s[at+len(other):] }

// The places of a subtable's fields.
const (
	formatAt   = 0
	reservedAt = 2
	lengthAt   = 4
	languageAt = 8
	countAt    = 12
	groupsAt   = 16
)

// glyphOf is that of a rune of a span.
func glyphOf(x api.Span, c int) int { return x.Glyph + x.Step*(c-x.From) }

// isRight is by the words of layer 8.
func isRight(l []api.Span) bool {
	if len(l) > 65536 {
		return false
	}
	for i, x := range l {
		if x.From < 0 || x.To < x.From || x.To > 1114111 || x.Step != 0 && x.Step != 1 {
			return false
		}
		// No product can go over: the runes and the step have been asked.
		if x.Glyph < 0 || x.Glyph > 65535 || glyphOf(x, x.To) > 65535 {
			return false
		}
		if i > 0 && x.From <= l[i-1].To {
			return false
		}
	}
	return true
}

// modelGet reads a subtable by the words of P10.1, one after the other, with byte positions.
func modelGet(s string) ([]api.Span, api.Errno) {
	integer := func(at, bytes int) int {
		n := 0
		for i := range bytes {
			n = n*256 + int(s[at+i])
		}
		return n
	}
	if len(s) < 16 {
		return nil, api.ErrMore
	}
	format, length, n := integer(0, 2), integer(4, 4), integer(12, 4)
	if format != 12 && format != 13 {
		return nil, api.ErrForm
	}
	if n > 65536 {
		return nil, api.ErrLong
	}
	if length != 16+12*n {
		return nil, api.ErrForm
	}
	if len(s) < length {
		return nil, api.ErrMore
	}
	var l []api.Span
	for i := range n {
		x := api.Span{From: integer(16+12*i, 4), To: integer(20+12*i, 4), Glyph: integer(24+12*i, 4)}
		if format == 12 {
			x.Step = 1
		}
		l = append(l, x)
	}
	if !isRight(l) {
		return nil, api.ErrForm
	}
	return l, api.OK
}

// modelSplit is by the words of P10.2.
func modelSplit(l []api.Span, step int) ([]api.Span, api.Errno) {
	if !isRight(l) || step != 0 && step != 1 {
		return nil, api.ErrArg
	}
	var all []api.Span
	for _, x := range l {
		var glyphs []api.Span
		for c := x.From; c <= x.To; c++ {
			if g := glyphOf(x, c); g != 0 {
				glyphs = append(glyphs, api.Span{From: c, To: c, Glyph: g, Step: step})
			}
		}
		switch {
		case len(glyphs) == 0:
		case x.Step != step && x.To > x.From:
			all = append(all, glyphs...)
		default:
			all = append(all, api.Span{From: x.From, To: x.To, Glyph: x.Glyph, Step: step})
		}
	}
	if len(all) > 65536 {
		return nil, api.ErrLong
	}
	return all, api.OK
}

// modelPut is by the words of P10.3.
func modelPut(l []api.Span, format int) (string, api.Errno) {
	if format != 12 && format != 13 {
		return "", api.ErrArg
	}
	kept, e := modelSplit(l, map[int]int{12: 1, 13: 0}[format])
	if e != api.OK {
		return "", e
	}
	var rows []row
	for _, x := range kept {
		rows = append(rows, row{x.From, x.To, x.Glyph})
	}
	return table(format, rows...), api.OK
}

// source gives numbers below a bound; the same seed gives the same ones.
func source(seed int) func(int) int {
	bits := uint64(seed)*2862933555777941757 + 3037000493
	return func(bound int) int {
		bits = bits*6364136223846793005 + 1442695040888963407
		return int((bits >> 33) % uint64(bound))
	}
}

// someSpans is a list of spans that rise from a rune on, with gaps; it is valid, if it does not go beyond the last rune.
func someSpans(next func(int) int, n, from int) []api.Span {
	var l []api.Span
	for range n {
		x := api.Span{From: from, To: from + []int{0, 0, 1, 2, next(9), next(40)}[next(6)], Step: next(2)}
		top := 65535 - x.Step*(x.To-x.From)
		x.Glyph = []int{0, 0, 1, top, next(top + 1)}[next(5)]
		l = append(l, x)
		from = x.To + 1 + []int{0, 0, 1, next(9)}[next(4)]
	}
	return l
}

// ones are n spans of a rune each, from a rune on.
func ones(n, from, g, step int) []api.Span {
	l := make([]api.Span, n)
	for i := range l {
		l[i] = api.Span{From: from + i, To: from + i, Glyph: g, Step: step}
	}
	return l
}

// rows are n groups of a rune each, from 0 on.
func rows(n, g int) []row {
	l := make([]row, n)
	for i := range l {
		l[i] = row{i, i, g}
	}
	return l
}

func shortList(l []api.Span) []api.Span { return l[:min(len(l), 20)] }

func shortText(s string) string { return s[:min(len(s), 80)] }

// mapped are the runes that have a glyph, with it, in their order.
func mapped(l []api.Span) [][2]int {
	var all [][2]int
	for _, x := range l {
		for c := x.From; c <= x.To; c++ {
			if g := glyphOf(x, c); g != 0 {
				all = append(all, [2]int{c, g})
			}
		}
	}
	return all
}

func checkGet(t *testing.T, s string, want []api.Span, wantE api.Errno) {
	t.Helper()
	l, e := group.Get(s)
	if !slices.Equal(l, want) || e != wantE {
		t.Errorf("P10.1: Get(%q, of %d bytes) is %+v, of %d, %d, not %+v, of %d, %d", shortText(s), len(s), shortList(l), len(l), e, shortList(want), len(want), wantE)
	}
	if !chart.Is(l) {
		t.Errorf("P10.4: what Get(%q, of %d bytes) answers is not valid: %+v", shortText(s), len(s), shortList(l))
	}
}

// checkModel holds Get against the model, and tells its error.
func checkModel(t *testing.T, s string) api.Errno {
	t.Helper()
	want, e := modelGet(s)
	checkGet(t, s, want, e)
	return e
}

func checkSplit(t *testing.T, l []api.Span, step int, want []api.Span, wantE api.Errno) {
	t.Helper()
	before := slices.Clone(l)
	m, e := group.Split(l, step)
	if !slices.Equal(m, want) || e != wantE {
		t.Errorf("P10.2: Split(%+v, of %d, %d) is %+v, of %d, %d, not %+v, of %d, %d", shortList(l), len(l), step, shortList(m), len(m), e, shortList(want), len(want), wantE)
	}
	if !slices.Equal(l, before) {
		t.Errorf("R2: Split changed the spans from %+v to %+v", shortList(before), shortList(l))
	}
	if e != api.OK {
		return
	}
	if !chart.Is(m) {
		t.Errorf("P10.4: what Split(%+v, of %d, %d) answers is not valid: %+v", shortList(l), len(l), step, shortList(m))
	}
	if !slices.Equal(mapped(m), mapped(l)) {
		t.Errorf("P10.4: what Split(%+v, of %d, %d) answers has other glyphs: %+v", shortList(l), len(l), step, shortList(m))
	}
}

// checkPut holds Put against what is asked, and reads again what is written.
func checkPut(t *testing.T, l []api.Span, format int, want string, wantE api.Errno) {
	t.Helper()
	before := slices.Clone(l)
	s, e := group.Put(l, format)
	if s != want || e != wantE {
		t.Errorf("P10.3: Put(%+v, of %d, %d) is %q, of %d bytes, %d, not %q, of %d, %d", shortList(l), len(l), format, shortText(s), len(s), e, shortText(want), len(want), wantE)
	}
	if !slices.Equal(l, before) {
		t.Errorf("R2: Put changed the spans from %+v to %+v", shortList(before), shortList(l))
	}
	if e != api.OK {
		return
	}
	again, e := group.Get(s)
	if e != api.OK || !chart.Is(again) {
		t.Errorf("P10.4: what Put(%+v, of %d, %d) writes is read as %+v, %d", shortList(l), len(l), format, shortList(again), e)
	}
	split, e := group.Split(l, 13-format)
	if e != api.OK || !slices.Equal(again, split) {
		t.Errorf("P10.4: what Put(%+v, of %d, %d) writes is read as %+v, of %d, but Split answers %+v, of %d, %d", shortList(l), len(l), format, shortList(again), len(again), shortList(split), len(split), e)
	}
	if !slices.Equal(mapped(again), mapped(l)) {
		t.Errorf("P10.4: what Put(%+v, of %d, %d) writes has other glyphs when read again: %+v", shortList(l), len(l), format, shortList(again))
	}
}

// checkModels holds Split and Put against the models, for both steps and formats, and tells their errors.
func checkModels(t *testing.T, l []api.Span) [2]api.Errno {
	t.Helper()
	var told [2]api.Errno
	for step := range 2 {
		want, e := modelSplit(l, step)
		checkSplit(t, l, step, want, e)
		s, e := modelPut(l, 13-step)
		checkPut(t, l, 13-step, s, e)
		told[step] = e
	}
	return told
}

func TestGetReadsGroups(t *testing.T) {
	rest := "\x00\x00\x00\x00\x00\x28\x00\x00\x00\x00\x00\x00\x00\x02\x00\x00\x01\x00\x00\x00\x01\x02\x00\x00\x03\x04\x00\x10\xff\xff\x00\x10\xff\xff\x00\x00\xff\xff"
	checkGet(t, "\x00\x0c"+rest, []api.Span{rising(256, 258, 772), rising(1114111, 1114111, 65535)}, api.OK)
	checkGet(t, "\x00\x0d"+rest, []api.Span{same(256, 258, 772), same(1114111, 1114111, 65535)}, api.OK)
	checkGet(t, "\x00\x0c\x00\x00\x00\x00\x00\x10\x00\x00\x00\x00\x00\x00\x00\x00", nil, api.OK)
	checkGet(t, "\x00\x0d\x00\x00\x00\x00\x00\x10\x00\x00\x00\x00\x00\x00\x00\x00", nil, api.OK)
}

func TestGetKeepsGroupsAsTheyAre(t *testing.T) {
	l := []row{{0, 0, 0}, {1, 3, 0}, {4, 4, 9}, {5, 5, 10}, {6, 9, 9}}
	checkGet(t, table(12, l...), []api.Span{rising(0, 0, 0), rising(1, 3, 0), rising(4, 4, 9), rising(5, 5, 10), rising(6, 9, 9)}, api.OK)
	checkGet(t, table(13, l...), []api.Span{same(0, 0, 0), same(1, 3, 0), same(4, 4, 9), same(5, 5, 10), same(6, 9, 9)}, api.OK)
}

func TestGetOfTextsOfEachLength(t *testing.T) {
	for _, format := range []int{12, 13} {
		for n := range 4 {
			full := table(format, []row{{1, 2, 3}, {5, 9, 100}, {70000, 70002, 65533}}[:n]...)
			more := full + strings.Repeat("\xff", 40)
			for size := range len(more) + 1 {
				if e := checkModel(t, more[:size]); e != api.OK && size >= len(full) || e != api.ErrMore && size < len(full) {
					t.Errorf("P10.1: %d of %d bytes are %d", size, len(full), e)
				}
			}
		}
	}
	for size := range 16 {
		checkGet(t, strings.Repeat("\x00", size), nil, api.ErrMore)
		checkGet(t, strings.Repeat("\xff", size), nil, api.ErrMore)
	}
	for size := 16; size < 40; size++ {
		checkGet(t, strings.Repeat("\x00", size), nil, api.ErrForm)
		checkGet(t, strings.Repeat("\xff", size), nil, api.ErrForm)
	}
}

func TestGetOfEveryFormat(t *testing.T) {
	right := table(12, row{5, 6, 7})
	for f := range 65536 {
		want, e := []api.Span(nil), api.ErrForm
		switch f {
		case 12:
			want, e = []api.Span{rising(5, 6, 7)}, api.OK
		case 13:
			want, e = []api.Span{same(5, 6, 7)}, api.OK
		}
		checkGet(t, with(right, formatAt, pair(f)), want, e)
	}
}

func TestGetIgnoresTheReservedIntegerAndTheLanguage(t *testing.T) {
	for _, format := range []int{12, 13} {
		right := table(format, row{5, 6, 7})
		want := []api.Span{{From: 5, To: 6, Glyph: 7, Step: 13 - format}}
		for n := range 65536 {
			checkGet(t, with(right, reservedAt, pair(n)), want, api.OK)
			checkGet(t, with(right, languageAt, pair(n)), want, api.OK)
			checkGet(t, with(right, languageAt+2, pair(n)), want, api.OK)
		}
		for _, n := range great {
			checkGet(t, with(with(right, languageAt, quads(n)), reservedAt, pair(n)), want, api.OK)
		}
	}
}

func TestGetOfEachCount(t *testing.T) {
	for _, format := range []int{12, 13} {
		right := table(format, rows(3, 1)...)
		for n := range 70 {
			want := api.ErrForm
			if n == 3 {
				want = api.OK
			}
			if e := checkModel(t, with(right, countAt, quads(n))); e != want {
				t.Errorf("P10.1: %d groups in place of 3 are %d", n, e)
			}
			// The length is right, but bytes may be missing.
			want = api.OK
			if n > 3 {
				want = api.ErrMore
			}
			if e := checkModel(t, with(with(right, countAt, quads(n)), lengthAt, quads(16+12*n))); e != want {
				t.Errorf("P10.1: %d groups, of which 3 are there, are %d", n, e)
			}
		}
		for _, n := range []int{65535, 65536} {
			s := with(right, countAt, quads(n))
			checkGet(t, s, nil, api.ErrForm)
			checkGet(t, with(s, lengthAt, quads(16+12*n-1)), nil, api.ErrForm)
			checkGet(t, with(s, lengthAt, quads(16+12*n)), nil, api.ErrMore)
			checkGet(t, with(s, lengthAt, quads(16+12*n+1)), nil, api.ErrForm)
		}
		// Too many are told ahead of a wrong length, and ahead of missing bytes; 12 * 357913942 is 8 more than 2^32.
		for _, n := range append([]int{65537, 65538, 131072, 357913940, 357913941, 357913942, 1073741824, 3221225472}, great...) {
			s := with(right, countAt, quads(n))
			checkGet(t, s, nil, api.ErrLong)
			checkGet(t, with(s, lengthAt, quads(16+12*n)), nil, api.ErrLong)
			checkGet(t, with(s, lengthAt, quads(0)), nil, api.ErrLong)
			checkGet(t, with(s, lengthAt, quads(4294967295)), nil, api.ErrLong)
		}
	}
}

func TestGetOfAsManyGroupsAsThereMayBe(t *testing.T) {
	for _, n := range []int{65535, 65536} {
		for _, g := range []int{0, 1, 65535} {
			checkGet(t, table(12, rows(n, g)...), ones(n, 0, g, 1), api.OK)
			checkGet(t, table(13, rows(n, g)...), ones(n, 0, g, 0), api.OK)
		}
	}
	for _, format := range []int{12, 13} {
		checkGet(t, table(format, rows(65537, 1)...), nil, api.ErrLong)
		full := table(format, rows(65536, 1)...)
		checkGet(t, full[:len(full)-1], nil, api.ErrMore)
		// The last group is held against the one before.
		checkGet(t, with(full, len(full)-12, quads(65534)), nil, api.ErrForm)
		checkGet(t, with(full, len(full)-4, quads(65536)), nil, api.ErrForm)
	}
}

func TestGetOfEachLength(t *testing.T) {
	for _, format := range []int{12, 13} {
		for n := range 3 {
			right := table(format, []row{{5, 6, 7}, {8, 9, 10}}[:n]...)
			full := right + strings.Repeat("\x00", 100)
			for length := range 200 {
				want := api.ErrForm
				if length == 16+12*n {
					want = api.OK
				}
				if e := checkModel(t, with(full, lengthAt, quads(length))); e != want {
					t.Errorf("P10.1: the length %d of %d groups is %d", length, n, e)
				}
			}
			// The lengths one below and one above are wrong, however many bytes there are.
			for _, length := range []int{len(right) - 1, len(right) + 1} {
				for size := 16; size < len(right)+3; size++ {
					checkGet(t, with(full, lengthAt, quads(length))[:size], nil, api.ErrForm)
				}
			}
			// Each byte of the length tells.
			for i := range 4 {
				at := lengthAt + i
				for b := range 256 {
					if byte(b) != right[at] {
						checkGet(t, with(full, at, string([]byte{byte(b)})), nil, api.ErrForm)
					}
				}
			}
			for _, length := range great {
				checkGet(t, with(full, lengthAt, quads(length)), nil, api.ErrForm)
			}
		}
	}
}

func TestGetIgnoresBytesBehindTheLength(t *testing.T) {
	for _, more := range []string{"\x00", "\xff", "more", bytesOf(rows(3, 1)), bytesOf([]row{{9, 3, 70000}})} {
		checkGet(t, table(12)+more, nil, api.OK)
		checkGet(t, table(13)+more, nil, api.OK)
		checkGet(t, table(12, row{5, 6, 7})+more, []api.Span{rising(5, 6, 7)}, api.OK)
		checkGet(t, table(13, row{5, 6, 7})+more, []api.Span{same(5, 6, 7)}, api.OK)
	}
}

func TestGetTellsTheFirstError(t *testing.T) {
	for faults := range 64 {
		is := func(fault int) bool { return faults>>fault&1 == 1 }
		want := api.OK
		tell := func(e api.Errno) {
			if want == api.OK {
				want = e
			}
		}
		s := table(12, row{5, 6, 7}, row{8, 9, 10})
		size := len(s)
		if is(0) {
			size = 15
			tell(api.ErrMore)
		}
		if is(1) {
			s = with(s, formatAt, pair(14))
			tell(api.ErrForm)
		}
		if is(2) {
			s = with(s, countAt, quads(65537))
			tell(api.ErrLong)
		}
		if is(3) {
			s = with(s, lengthAt, quads(41))
			tell(api.ErrForm)
		} else if is(2) {
			s = with(s, lengthAt, quads(16+12*65537))
		}
		if is(4) {
			size = min(size, 39)
			tell(api.ErrMore)
		}
		if is(5) {
			s = with(s, groupsAt, quads(7))
			tell(api.ErrForm)
		}
		s = s[:size]
		if want == api.OK {
			checkGet(t, s, []api.Span{rising(5, 6, 7), rising(8, 9, 10)}, api.OK)
		} else {
			checkGet(t, s, nil, want)
		}
	}
}

func TestGetOfGroupsAtTheirEdges(t *testing.T) {
	runes := append([]int{0, 1, 2, 65534, 65535, 65536, 1048575, 1048576, 1048577, 1114110, 1114111, 1114112}, great...)
	glyphs := append([]int{0, 1, 65533, 65534, 65535, 65536, 65537}, great...)
	told := map[api.Errno]int{}
	for _, first := range runes {
		for _, last := range runes {
			for _, g := range glyphs {
				for _, format := range []int{12, 13} {
					told[checkModel(t, table(format, row{first, last, g}))]++
				}
			}
		}
	}
	if told[api.OK] < 100 || told[api.ErrForm] < 1000 || len(told) != 2 {
		t.Errorf("the groups do not tell all results often: %v", told)
	}
}

func TestGetOfOneGroup(t *testing.T) {
	for _, k := range []struct {
		x      row
		rising api.Errno
		same   api.Errno
	}{
		{row{5, 5, 7}, api.OK, api.OK},
		{row{5, 6, 7}, api.OK, api.OK},
		{row{5, 4, 7}, api.ErrForm, api.ErrForm},
		{row{5, 0, 7}, api.ErrForm, api.ErrForm},
		{row{0, 0, 0}, api.OK, api.OK},
		{row{0, 1114111, 0}, api.ErrForm, api.OK},
		{row{0, 1114111, 65535}, api.ErrForm, api.OK},
		{row{1114111, 1114111, 65535}, api.OK, api.OK},
		{row{1114110, 1114111, 65535}, api.ErrForm, api.OK},
		{row{1114111, 1114112, 1}, api.ErrForm, api.ErrForm},
		{row{1114112, 1114112, 1}, api.ErrForm, api.ErrForm},
		{row{5, 5, 65535}, api.OK, api.OK},
		{row{5, 5, 65536}, api.ErrForm, api.ErrForm},
		{row{5, 9, 65530}, api.OK, api.OK},
		{row{5, 9, 65531}, api.OK, api.OK},
		{row{5, 9, 65532}, api.ErrForm, api.OK},
		{row{5, 9, 65535}, api.ErrForm, api.OK},
		{row{5, 9, 65536}, api.ErrForm, api.ErrForm},
		{row{0, 65535, 0}, api.OK, api.OK},
		{row{0, 65536, 0}, api.ErrForm, api.OK},
		{row{0, 65534, 1}, api.OK, api.OK},
		{row{0, 65535, 1}, api.ErrForm, api.OK},
		{row{2147483648, 5, 7}, api.ErrForm, api.ErrForm},
		{row{4294967295, 5, 7}, api.ErrForm, api.ErrForm},
		{row{5, 2147483648, 7}, api.ErrForm, api.ErrForm},
		{row{5, 4294967295, 7}, api.ErrForm, api.ErrForm},
		{row{2147483648, 2147483648, 7}, api.ErrForm, api.ErrForm},
		{row{4294967295, 4294967295, 7}, api.ErrForm, api.ErrForm},
		{row{5, 5, 2147483648}, api.ErrForm, api.ErrForm},
		{row{5, 5, 4294967295}, api.ErrForm, api.ErrForm},
		{row{5, 6, 4294967295}, api.ErrForm, api.ErrForm},
	} {
		for step, want := range []api.Errno{k.same, k.rising} {
			var l []api.Span
			if want == api.OK {
				l = []api.Span{{From: k.x.first, To: k.x.last, Glyph: k.x.glyph, Step: step}}
			}
			checkGet(t, table(13-step, k.x), l, want)
		}
	}
}

func TestGetOfGroupsBesideEachOther(t *testing.T) {
	for _, format := range []int{12, 13} {
		for first := range 16 {
			for last := range 16 {
				want := api.ErrForm
				if first > 9 && last >= first {
					want = api.OK
				}
				s := table(format, row{5, 9, 1}, row{first, last, 20})
				if e := checkModel(t, s); e != want {
					t.Errorf("P10.1: the runes %d to %d behind 5 to 9 are %d", first, last, e)
				}
				checkModel(t, table(format, row{first, last, 20}, row{5, 9, 1}))
				checkModel(t, table(format, row{0, 2, 3}, row{5, 9, 1}, row{first, last, 20}, row{20, 20, 0}))
			}
		}
		// The runes count, not the glyphs.
		if e := checkModel(t, table(format, row{1, 2, 500}, row{3, 4, 7}, row{5, 5, 500}, row{6, 9, 0})); e != api.OK {
			t.Errorf("P10.1: glyphs that fall from group to group are %d", e)
		}
		// A group without glyphs lies in the way, too.
		checkGet(t, table(format, row{5, 9, 0}, row{9, 12, 1}), nil, api.ErrForm)
		checkGet(t, table(format, row{5, 9, 3}, row{9, 12, 0}), nil, api.ErrForm)
		checkGet(t, table(format, row{5, 6, 3}, row{5, 6, 3}), nil, api.ErrForm)
		checkGet(t, table(format, row{1114111, 1114111, 3}, row{4294967295, 4294967295, 3}), nil, api.ErrForm)
	}
}

func TestGetOfSubtablesWithOneNumberChanged(t *testing.T) {
	next := source(1)
	told := map[api.Errno]int{}
	for range 40000 {
		var l []row
		for _, x := range someSpans(next, next(6), next(30)) {
			l = append(l, row{x.From, x.To, x.Glyph})
		}
		s := table(12+next(2), l...)
		value := []int{next(60), next(200), 65535, 65536, 1114111, 1114112, 2147483648, 4294967295}[next(8)]
		switch at := 4 * (1 + next(3+3*len(l))); next(5) {
		case 0:
			s = with(s, at, quads(value))
		case 1:
			s = s[:at]
		case 2:
			s += quads(value)
		case 3:
			s = with(s, formatAt, pair(11+next(4))+pair(next(3)))
		}
		told[checkModel(t, s)]++
	}
	if told[api.OK] < 3000 || told[api.ErrForm] < 3000 || told[api.ErrMore] < 3000 || told[api.ErrLong] < 100 {
		t.Errorf("the subtables do not tell all results often: %v", told)
	}
}

func TestGetOfBytesOfAllKinds(t *testing.T) {
	next := source(2)
	for range 40000 {
		b := make([]byte, next(60))
		for i := range b {
			b[i] = byte([]int{0, 0, 0, 255, 12, next(256)}[next(6)])
		}
		if len(b) > 16 && next(4) > 0 {
			n := next(4)
			copy(b, pair(12+next(2))+pair(next(9))+quads(16+12*n, next(9), n))
		}
		checkModel(t, string(b))
	}
}

func TestSplitOfEachKindOfSpan(t *testing.T) {
	for _, k := range []struct {
		x      api.Span
		same   []api.Span
		rising []api.Span
	}{
		// One rune.
		{same(5, 5, 0), nil, nil},
		{rising(5, 5, 0), nil, nil},
		{same(5, 5, 7), []api.Span{same(5, 5, 7)}, []api.Span{rising(5, 5, 7)}},
		{rising(5, 5, 7), []api.Span{same(5, 5, 7)}, []api.Span{rising(5, 5, 7)}},
		{same(0, 0, 1), []api.Span{same(0, 0, 1)}, []api.Span{rising(0, 0, 1)}},
		{rising(1114111, 1114111, 65535), []api.Span{same(1114111, 1114111, 65535)}, []api.Span{rising(1114111, 1114111, 65535)}},
		// Several, with the same glyph.
		{same(5, 6, 0), nil, nil},
		{same(0, 1114111, 0), nil, nil},
		{same(5, 6, 1), []api.Span{same(5, 6, 1)}, []api.Span{rising(5, 5, 1), rising(6, 6, 1)}},
		{same(5, 7, 65535), []api.Span{same(5, 7, 65535)}, []api.Span{rising(5, 5, 65535), rising(6, 6, 65535), rising(7, 7, 65535)}},
		// Several, with glyphs that rise.
		{rising(5, 7, 9), []api.Span{same(5, 5, 9), same(6, 6, 10), same(7, 7, 11)}, []api.Span{rising(5, 7, 9)}},
		{rising(5, 6, 1), []api.Span{same(5, 5, 1), same(6, 6, 2)}, []api.Span{rising(5, 6, 1)}},
		{rising(5, 6, 65534), []api.Span{same(5, 5, 65534), same(6, 6, 65535)}, []api.Span{rising(5, 6, 65534)}},
		// The first rune alone has no glyph.
		{rising(5, 6, 0), []api.Span{same(6, 6, 1)}, []api.Span{rising(5, 6, 0)}},
		{rising(0, 3, 0), []api.Span{same(1, 1, 1), same(2, 2, 2), same(3, 3, 3)}, []api.Span{rising(0, 3, 0)}},
		{rising(1114110, 1114111, 0), []api.Span{same(1114111, 1114111, 1)}, []api.Span{rising(1114110, 1114111, 0)}},
	} {
		l := []api.Span{k.x}
		checkSplit(t, l, 0, k.same, api.OK)
		checkSplit(t, l, 1, k.rising, api.OK)
		checkModels(t, l)
		if k.x.From == 0 || k.x.To == 1114111 {
			continue
		}
		// Spans beside it are taken as they are by themselves, in their order.
		l = []api.Span{rising(k.x.From-1, k.x.From-1, 3), k.x, same(k.x.To+1, 1114111, 0)}
		checkSplit(t, l, 0, append([]api.Span{same(k.x.From-1, k.x.From-1, 3)}, k.same...), api.OK)
		checkSplit(t, l, 1, append([]api.Span{rising(k.x.From-1, k.x.From-1, 3)}, k.rising...), api.OK)
		checkModels(t, l)
	}
}

func TestSplitOfSeveralSpans(t *testing.T) {
	l := []api.Span{same(1, 2, 9), rising(3, 4, 9), same(5, 6, 0), rising(7, 7, 0), rising(8, 9, 0), same(10, 10, 4), rising(11, 11, 4), same(65536, 65538, 65535)}
	checkSplit(t, l, 0, []api.Span{same(1, 2, 9), same(3, 3, 9), same(4, 4, 10), same(9, 9, 1), same(10, 10, 4), same(11, 11, 4), same(65536, 65538, 65535)}, api.OK)
	checkSplit(t, l, 1, []api.Span{rising(1, 1, 9), rising(2, 2, 9), rising(3, 4, 9), rising(8, 9, 0), rising(10, 10, 4), rising(11, 11, 4), rising(65536, 65536, 65535), rising(65537, 65537, 65535), rising(65538, 65538, 65535)}, api.OK)
	// Spans that could be one are not joined.
	l = []api.Span{rising(1, 1, 5), rising(2, 2, 6), rising(3, 5, 7), rising(6, 8, 10)}
	checkSplit(t, l, 1, l, api.OK)
	l = []api.Span{same(1, 1, 5), same(2, 2, 5), same(3, 5, 5), same(6, 8, 5)}
	checkSplit(t, l, 0, l, api.OK)
}

func TestSplitOfListsWithoutGlyphs(t *testing.T) {
	for _, l := range [][]api.Span{
		nil, {}, {{}}, {{Step: 1}}, {same(5, 9, 0)}, {same(0, 1114111, 0)}, {same(0, 65535, 0), same(65536, 1114110, 0), rising(1114111, 1114111, 0)}, ones(65536, 0, 0, 0), ones(65536, 0, 0, 1),
	} {
		for step := range 2 {
			checkSplit(t, l, step, nil, api.OK)
			checkPut(t, l, 13-step, table(13-step), api.OK)
		}
	}
}

// wrong are lists that are not valid.
func wrong() [][]api.Span {
	l := [][]api.Span{
		{{From: -1}},
		{{From: -1, To: 5, Glyph: 7}},
		{{From: 1}},
		{{From: 5, To: 4, Glyph: 7, Step: 1}},
		{{To: 1114112}},
		{{From: 1114112, To: 1114112}},
		{{Step: -1}},
		{{Step: 2}},
		{{To: 3, Glyph: 7, Step: 2}},
		{{Glyph: -1}},
		{{To: 1, Glyph: -1, Step: 1}},
		{{Glyph: 65536}},
		{{To: 1, Glyph: 65535, Step: 1}},
		{{To: 65535, Glyph: 1, Step: 1}},
		{{}, {}},
		{{To: 5, Glyph: 1}, {From: 5, To: 9, Glyph: 2}},
		{{From: 5, To: 9, Glyph: 2}, {To: 4, Glyph: 1}},
		{{To: 1114111}, {From: 1114111, To: 1114111}},
		ones(65537, 0, 0, 0),
		ones(65537, 0, 1, 1),
	}
	for _, n := range far {
		l = append(l, []api.Span{{From: n, To: n}}, []api.Span{{Glyph: n}}, []api.Span{{Step: n}}, []api.Span{{To: 5, Glyph: n, Step: 1}}, []api.Span{{From: n, To: n, Glyph: n, Step: n}}, []api.Span{{From: min(n, 0), To: max(n, 0), Step: 1}})
	}
	return l
}

func TestSplitAndPutOfListsThatAreNotValid(t *testing.T) {
	for _, l := range wrong() {
		for _, more := range [][]api.Span{l, append(slices.Clone(l), same(1114111, 1114111, 5)), append(slices.Clone(l), same(80000, 200000, 5)), append([]api.Span{rising(0, 65535, 0)}, l...)} {
			for step := range 2 {
				checkSplit(t, more, step, nil, api.ErrArg)
				checkPut(t, more, 13-step, "", api.ErrArg)
			}
		}
	}
}

func TestSplitOfEachStep(t *testing.T) {
	lists := [][]api.Span{nil, {same(5, 6, 0)}, {same(5, 5, 7)}, {rising(5, 6, 7)}, {{From: 1}}, {{Step: 2}}, {{Step: -1}}, {same(0, 70000, 1)}, {rising(0, 65535, 0), same(65536, 65537, 3)}}
	for _, l := range lists {
		for step := -70; step < 70; step++ {
			want, e := modelSplit(l, step)
			checkSplit(t, l, step, want, e)
			if step != 0 && step != 1 && e != api.ErrArg {
				t.Errorf("P10.2: the model's Split(%+v, %d) is %d", l, step, e)
			}
		}
		for _, step := range append([]int{12, 13, 256, 257, 65536, 65537, 1<<32 - 1}, far...) {
			checkSplit(t, l, step, nil, api.ErrArg)
		}
	}
}

// hard is a list of which Split makes n spans, or would make them, if there are not too many.
type hard struct {
	name string
	l    []api.Span
	step int
	n    int
}

func hardLists() []hard {
	return []hard{
		// Spans that are kept: there can't be more of them than in a valid list.
		{"kept", ones(65536, 0, 1, 0), 0, 65536},
		{"kept", ones(65536, 0, 1, 1), 1, 65536},
		{"of one rune and the other step", ones(65536, 0, 1, 1), 0, 65536},
		{"of one rune and the other step", ones(65536, 0, 1, 0), 1, 65536},
		// Spans that are divided.
		{"divided", []api.Span{same(0, 65534, 1)}, 1, 65535},
		{"divided", []api.Span{same(0, 65535, 1)}, 1, 65536},
		{"divided", []api.Span{same(0, 65536, 1)}, 1, 65537},
		{"divided, up to the last rune", []api.Span{same(1048576, 1114111, 1)}, 1, 65536},
		{"divided, up to the last rune", []api.Span{same(1048575, 1114111, 1)}, 1, 65537},
		{"of all runes", []api.Span{same(0, 1114111, 65535)}, 1, 1114112},
		{"divided, the first rune without a glyph", []api.Span{rising(0, 65535, 0)}, 0, 65535},
		{"divided, the first rune without a glyph", []api.Span{rising(0, 65535, 0), rising(65536, 65537, 0)}, 0, 65536},
		{"divided, the first rune without a glyph", []api.Span{rising(0, 65535, 0), rising(65536, 65538, 0)}, 0, 65537},
		{"divided, all with glyphs", []api.Span{rising(0, 65534, 1), rising(70000, 70000, 9)}, 0, 65536},
		{"divided, all with glyphs", []api.Span{rising(0, 65534, 1), rising(70000, 70001, 9)}, 0, 65537},
		{"divided twice", []api.Span{same(0, 32767, 1), same(32768, 65535, 2)}, 1, 65536},
		{"divided twice", []api.Span{same(0, 32767, 1), same(32768, 65536, 2)}, 1, 65537},
		// Of both kinds.
		{"kept behind divided ones", []api.Span{same(0, 65534, 1), rising(70000, 70009, 1)}, 1, 65536},
		{"kept behind divided ones", []api.Span{same(0, 65535, 1), rising(70000, 70009, 1)}, 1, 65537},
		{"kept behind divided ones, none with a glyph", []api.Span{same(0, 65535, 1), rising(70000, 70000, 0), same(80000, 90000, 0)}, 1, 65536},
		{"divided behind kept ones", append(ones(65534, 0, 1, 0), rising(70000, 70001, 1)), 0, 65536},
		{"divided behind kept ones", append(ones(65535, 0, 1, 0), rising(70000, 70001, 1)), 0, 65537},
		{"divided behind kept ones", append(ones(65535, 0, 1, 0), rising(70000, 70001, 0)), 0, 65536},
		{"divided behind kept ones", append(ones(65535, 0, 1, 0), rising(70000, 70002, 0)), 0, 65537},
		{"divided behind kept ones", append(ones(65535, 0, 1, 1), same(70000, 70001, 1)), 1, 65537},
		{"divided behind ones without glyphs", append(ones(65535, 0, 0, 1), same(70000, 70001, 1)), 1, 2},
		{"of one rune behind divided ones", []api.Span{rising(0, 65535, 0), rising(65536, 65536, 1)}, 0, 65536},
	}
}

func TestSplitAndPutOfAsManySpansAsThereMayBe(t *testing.T) {
	for _, k := range hardLists() {
		want := api.OK
		if k.n > 65536 {
			want = api.ErrLong
		}
		m, e := group.Split(k.l, k.step)
		if e != want || e == api.OK && len(m) != k.n || e != api.OK && m != nil {
			t.Errorf("P10.2: Split of %d spans, %s, is of %d, %d, not of %d", len(k.l), k.name, len(m), e, k.n)
		}
		s, e := group.Put(k.l, 13-k.step)
		if e != want || e == api.OK && len(s) != 16+12*k.n || e != api.OK && s != "" {
			t.Errorf("P10.3: Put of %d spans, %s, is of %d bytes, %d, not %d groups", len(k.l), k.name, len(s), e, k.n)
		}
		checkModels(t, k.l)
		// A step that is wrong, a format that is, or a list that is not valid comes ahead of too many spans.
		checkSplit(t, k.l, 2, nil, api.ErrArg)
		checkPut(t, k.l, 14, "", api.ErrArg)
		checkSplit(t, append(slices.Clone(k.l), api.Span{Step: 1}), k.step, nil, api.ErrArg)
		checkPut(t, append(slices.Clone(k.l), api.Span{Step: 1}), 13-k.step, "", api.ErrArg)
	}
}

func TestPutWritesGroups(t *testing.T) {
	l := []api.Span{rising(256, 258, 772), same(65536, 65537, 7), rising(1114111, 1114111, 65535)}
	checkPut(t, l, 12, "\x00\x0c\x00\x00\x00\x00\x00\x40\x00\x00\x00\x00\x00\x00\x00\x04"+
		"\x00\x00\x01\x00\x00\x00\x01\x02\x00\x00\x03\x04"+
		"\x00\x01\x00\x00\x00\x01\x00\x00\x00\x00\x00\x07\x00\x01\x00\x01\x00\x01\x00\x01\x00\x00\x00\x07"+
		"\x00\x10\xff\xff\x00\x10\xff\xff\x00\x00\xff\xff", api.OK)
	checkPut(t, l, 13, "\x00\x0d\x00\x00\x00\x00\x00\x4c\x00\x00\x00\x00\x00\x00\x00\x05"+
		"\x00\x00\x01\x00\x00\x00\x01\x00\x00\x00\x03\x04\x00\x00\x01\x01\x00\x00\x01\x01\x00\x00\x03\x05\x00\x00\x01\x02\x00\x00\x01\x02\x00\x00\x03\x06"+
		"\x00\x01\x00\x00\x00\x01\x00\x01\x00\x00\x00\x07"+
		"\x00\x10\xff\xff\x00\x10\xff\xff\x00\x00\xff\xff", api.OK)
	checkPut(t, nil, 12, "\x00\x0c\x00\x00\x00\x00\x00\x10\x00\x00\x00\x00\x00\x00\x00\x00", api.OK)
	checkPut(t, nil, 13, "\x00\x0d\x00\x00\x00\x00\x00\x10\x00\x00\x00\x00\x00\x00\x00\x00", api.OK)
}

func TestPutOfEachFormat(t *testing.T) {
	lists := [][]api.Span{nil, {same(5, 5, 7)}, {rising(5, 6, 7)}, {{From: 1}}, {{Step: 2}}, {same(0, 70000, 1)}, {rising(0, 65535, 0), same(65536, 65537, 3)}}
	for _, l := range lists {
		for format := -70; format < 70; format++ {
			want, e := modelPut(l, format)
			checkPut(t, l, format, want, e)
			if format != 12 && format != 13 && e != api.ErrArg {
				t.Errorf("P10.3: the model's Put(%+v, %d) is %d", l, format, e)
			}
		}
		for _, format := range append([]int{-12, -13, 256 + 12, 65536 + 12, 65536 + 13, 1<<32 + 12, 1<<32 + 13, math.MinInt + 12, math.MinInt + 13}, far...) {
			checkPut(t, l, format, "", api.ErrArg)
		}
	}
}

func TestSplitAndPutOfListsOfAllKinds(t *testing.T) {
	next := source(3)
	told := map[[2]api.Errno]int{}
	for range 6000 {
		from := []int{0, 0, 0, 100, 65400, 65500, 1113700, 1114000, 1114090, next(1114112)}[next(10)]
		told[checkModels(t, someSpans(next, next(16), from))]++
	}
	if told[[2]api.Errno{api.OK, api.OK}] < 3000 || told[[2]api.Errno{api.ErrArg, api.ErrArg}] < 100 || len(told) != 2 {
		t.Errorf("the lists do not tell all results often: %v", told)
	}
}

func TestWhatGetAnswersIsWrittenAgain(t *testing.T) {
	next := source(4)
	for range 1000 {
		var l []row
		for _, x := range someSpans(next, next(12), next(1000000)) {
			l = append(l, row{x.From, x.To, x.Glyph})
		}
		format := 12 + next(2)
		if format == 12 {
			for i, x := range l {
				l[i].glyph = min(x.glyph, 65535-x.last+x.first)
			}
		}
		m, e := group.Get(table(format, l...))
		if e != api.OK {
			t.Fatalf("P10.1: %+v of format %d are %d", l, format, e)
		}
		if told := checkModels(t, m); told != [2]api.Errno{} {
			t.Errorf("P10.4: what Get answers is written with %v", told)
		}
		// Of its own step all groups stay as they are, but for those without a glyph.
		l = slices.DeleteFunc(l, func(x row) bool { return x.glyph == 0 && (format == 13 || x.first == x.last) })
		checkPut(t, m, format, table(format, l...), api.OK)
	}
}

func TestAnswersShareNoMemory(t *testing.T) {
	s := table(12, row{5, 9, 100}, row{20, 22, 3})
	first, _ := group.Get(s)
	second, _ := group.Get(s)
	kept := slices.Clone(second)
	for i := range first {
		first[i] = api.Span{From: -1}
	}
	if again, _ := group.Get(s); !slices.Equal(second, kept) || !slices.Equal(again, kept) {
		t.Errorf("R2, R3: a change of one answer of Get changed another: %+v, %+v", second, again)
	}
	for step := range 2 {
		m, _ := group.Split(kept, step)
		before := slices.Clone(kept)
		for i := range m {
			m[i] = api.Span{From: -1}
		}
		if !slices.Equal(kept, before) {
			t.Errorf("R2: a change of the answer of Split changed its argument: %+v", kept)
		}
	}
}
