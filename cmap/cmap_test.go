package cmap_test

import (
	"math"
	"slices"
	"strings"
	"testing"

	"vinculum/api"
	"vinculum/chart"
	"vinculum/cmap"
	"vinculum/group"
	"vinculum/segment"
)

// far are numbers that no platform, encoding, rune, glyph or format reaches.
var far = []int{math.MinInt, math.MinInt + 1, math.MinInt32, -1 << 21, 1 << 21, math.MaxInt32, 1 << 32, 1<<32 + 1, 1 << 62, 1<<62 + 1, math.MaxInt - 1, math.MaxInt}

// known are the formats that are read and written.
var known = []int{0, 4, 6, 12, 13}

// id is a platform and an encoding.
type id struct{ platform, encoding int }

// ranks are those of P11.1.
var ranks = map[id]int{{3, 10}: 9, {0, 6}: 8, {0, 4}: 7, {3, 1}: 6, {0, 3}: 5, {0, 2}: 4, {0, 1}: 3, {0, 0}: 2, {1, 0}: 1}

// idOf is that of a rank; that of the rank 0 is one of many.
func idOf(rank int) id {
	for x, r := range ranks {
		if r == rank {
			return x
		}
	}
	return id{3, 0}
}

// rising is a span whose glyphs rise.
func rising(from, to, g int) api.Span { return api.Span{From: from, To: to, Glyph: g, Step: 1} }

// same is a span whose glyphs are all the same.
func same(from, to, g int) api.Span { return api.Span{From: from, To: to, Glyph: g} }

// pair is a number's two bytes.
func pair(n int) string { return string([]byte{byte(n >> 8), byte(n)}) }

// pairs are numbers' bytes, two for each, one behind the other.
func pairs(l ...int) string {
	var b strings.Builder
	for _, n := range l {
		b.WriteString(pair(n))
	}
	return b.String()
}

// quad is a number's four bytes.
func quad(n int) string { return pair(n>>16) + pair(n) }

// with is a text whose bytes from a place on are others.
func with(s string, at int, other string) string { return s[:at] + other + s[at+len(other):] }

// record is one of a table: its platform and encoding, and its offset.
type record struct {
	id
	offset int
}

// recordOf is one of a rank.
func recordOf(rank, offset int) record { return record{idOf(rank), offset} }

// head is a table's beginning, up to the end of its records.
func head(l ...record) string {
	s := pairs(0, len(l))
	for _, r := range l {
		s += pairs(r.platform, r.encoding) + quad(r.offset)
	}
	return s
}

// behind is the place behind n records.
func behind(n int) int { return 4 + 8*n }

// table lays subtables behind the records, one for each rank.
func table(given []int, subtables ...string) string {
	var l []record
	at := behind(len(given))
	for i, rank := range given {
		l = append(l, recordOf(rank, at))
		at += len(subtables[i])
	}
	return head(l...) + strings.Join(subtables, "")
}

// subtable is one of a format, in which a rune has a glyph.
func subtable(format, c, g int) string {
	switch format {
	case 0:
		glyphs := make([]byte, 256)
		glyphs[c] = byte(g)
		return pairs(0, 262, 0) + string(glyphs)
	case 4:
		return pairs(4, 32, 0, 4, 4, 1, 0, c, 65535, 0, c, 65535, g-c, 1, 0, 0)
	case 6:
		return pairs(6, 12, 0, c, 1, g)
	case 12, 13:
		return pairs(format, 0) + quad(28) + quad(0) + quad(1) + quad(c) + quad(c) + quad(g)
	}
	return pairs(format, 12, 0, c, 1, g)
}

// spansOf are those of a subtable of a format, in which a rune has a glyph.
func spansOf(format, c, g int) []api.Span {
	switch format {
	case 4:
		return []api.Span{rising(c, c, g), rising(65535, 65535, 0)}
	case 13:
		return []api.Span{same(c, c, g)}
	}
	return []api.Span{rising(c, c, g)}
}

func integer(s string, at, bytes int) int {
	n := 0
	for i := range bytes {
		n = n*256 + int(s[at+i])
	}
	return n
}

// modelRead is by the words of P11.2.
func modelRead(s string) ([]api.Span, api.Errno) {
	if len(s) < 2 {
		return nil, api.ErrMore
	}
	switch integer(s, 0, 2) {
	case 0, 6:
		return chart.Get(s)
	case 4:
		return segment.Get(s)
	case 12, 13:
		return group.Get(s)
	}
	return nil, api.ErrForm
}

// modelGet is by the words of P11.3, with byte positions.
func modelGet(s string) ([]api.Span, api.Errno) {
	if len(s) < 4 {
		return nil, api.ErrMore
	}
	if integer(s, 0, 2) != 0 {
		return nil, api.ErrForm
	}
	n := integer(s, 2, 2)
	if n > 64 {
		return nil, api.ErrLong
	}
	if len(s) < 4+8*n {
		return nil, api.ErrMore
	}
	best, at := 0, 0
	for i := range n {
		rank := ranks[id{integer(s, 4+8*i, 2), integer(s, 6+8*i, 2)}]
		offset := integer(s, 8+8*i, 4)
		if rank > best && offset+2 <= len(s) && slices.Contains(known, integer(s, offset, 2)) {
			best, at = rank, offset
		}
	}
	if best == 0 {
		return nil, api.ErrNone
	}
	return modelRead(s[at:])
}

// modelPut is by the words of P11.4.
func modelPut(l []api.Span, format int) (string, api.Errno) {
	s, e, x := "", api.OK, id{3, 10}
	switch format {
	case 0:
		s, e = chart.PutSmall(l)
		x = id{1, 0}
	case 4:
		s, e = segment.Put(l)
		x = id{3, 1}
	case 6:
		s, e = chart.PutTrimmed(l)
		x = id{3, 1}
	case 12, 13:
		s, e = group.Put(l, format)
	default:
		e = api.ErrArg
	}
	if e != api.OK {
		return "", e
	}
	return pairs(0, 1, x.platform, x.encoding) + "\x00\x00\x00\x0c" + s, api.OK
}

// source gives numbers below a bound; the same seed gives the same ones.
func source(seed int) func(int) int {
	bits := uint64(seed)*2862933555777941757 + 3037000493
	return func(bound int) int {
		bits = bits*6364136223846793005 + 1442695040888963407
		return int((bits >> 33) % uint64(bound))
	}
}

// someSpans is a list of spans that rise from a rune on, with gaps and glyphs up to a greatest one; it is valid, if it does not go beyond the last rune.
func someSpans(next func(int) int, n, from, most int) []api.Span {
	var l []api.Span
	for range n {
		x := api.Span{From: from, To: from + []int{0, 0, 1, 2, next(9), next(30)}[next(6)], Step: next(2)}
		top := max(most-x.Step*(x.To-x.From), 0)
		x.Glyph = []int{0, 0, 1, top, next(top + 1)}[next(5)]
		l = append(l, x)
		from = x.To + 1 + []int{0, 0, 1, next(9)}[next(4)]
	}
	return l
}

func shortList(l []api.Span) []api.Span { return l[:min(len(l), 20)] }

func shortText(s string) string { return s[:min(len(s), 80)] }

// mapped are the runes that have a glyph, with it, in their order.
func mapped(l []api.Span) [][2]int {
	var all [][2]int
	for _, x := range l {
		for c := x.From; c <= x.To; c++ {
			if g := x.Glyph + x.Step*(c-x.From); g != 0 {
				all = append(all, [2]int{c, g})
			}
		}
	}
	return all
}

func checkBest(t *testing.T, platform, encoding, want int) {
	t.Helper()
	if rank := cmap.Best(platform, encoding); rank != want {
		t.Errorf("P11.1: Best(%d, %d) is %d, not %d", platform, encoding, rank, want)
	}
}

func checkRead(t *testing.T, s string, want []api.Span, wantE api.Errno) {
	t.Helper()
	l, e := cmap.Read(s)
	if !slices.Equal(l, want) || e != wantE {
		t.Errorf("P11.2: Read(%q, of %d bytes) is %+v, of %d, %d, not %+v, of %d, %d", shortText(s), len(s), shortList(l), len(l), e, shortList(want), len(want), wantE)
	}
}

// checkReadModel holds Read against the model, and tells its error.
func checkReadModel(t *testing.T, s string) api.Errno {
	t.Helper()
	want, e := modelRead(s)
	checkRead(t, s, want, e)
	return e
}

func checkGet(t *testing.T, s string, want []api.Span, wantE api.Errno) {
	t.Helper()
	l, e := cmap.Get(s)
	if !slices.Equal(l, want) || e != wantE {
		t.Errorf("P11.3: Get(%q, of %d bytes) is %+v, of %d, %d, not %+v, of %d, %d", shortText(s), len(s), shortList(l), len(l), e, shortList(want), len(want), wantE)
	}
}

// checkModel holds Get against the model, and tells its error.
func checkModel(t *testing.T, s string) api.Errno {
	t.Helper()
	want, e := modelGet(s)
	checkGet(t, s, want, e)
	return e
}

// checkPut holds Put against what is asked, and reads again what is written.
func checkPut(t *testing.T, l []api.Span, format int, want string, wantE api.Errno) {
	t.Helper()
	before := slices.Clone(l)
	s, e := cmap.Put(l, format)
	if s != want || e != wantE {
		t.Errorf("P11.4: Put(%+v, of %d, %d) is %q, of %d bytes, %d, not %q, of %d, %d", shortList(l), len(l), format, shortText(s), len(s), e, shortText(want), len(want), wantE)
	}
	if !slices.Equal(l, before) {
		t.Errorf("R2: Put changed the spans from %+v to %+v", shortList(before), shortList(l))
	}
	if e != api.OK {
		return
	}
	again, e := cmap.Get(s)
	if e != api.OK || !slices.Equal(mapped(again), mapped(l)) {
		t.Errorf("P11.6: what Put(%+v, of %d, %d) writes has other glyphs when read again: %+v, %d", shortList(l), len(l), format, shortList(again), e)
	}
	if sub, e := cmap.Read(s[12:]); e != api.OK || !slices.Equal(sub, again) {
		t.Errorf("P11.6: the subtable that Put(%+v, of %d, %d) writes is read as %+v, %d, the table as %+v", shortList(l), len(l), format, shortList(sub), e, shortList(again))
	}
}

// checkPutModel holds Put against the model, and tells its error.
func checkPutModel(t *testing.T, l []api.Span, format int) api.Errno {
	t.Helper()
	want, e := modelPut(l, format)
	checkPut(t, l, format, want, e)
	return e
}

func checkGlyph(t *testing.T, l []api.Span, c, glyphs, want int, wantE api.Errno) {
	t.Helper()
	before := slices.Clone(l)
	g, e := cmap.Glyph(l, c, glyphs)
	if g != want || e != wantE {
		t.Errorf("P11.5: Glyph(%+v, of %d, %d, %d) is %d, %d, not %d, %d", shortList(l), len(l), c, glyphs, g, e, want, wantE)
	}
	if !slices.Equal(l, before) {
		t.Errorf("R2: Glyph changed the spans from %+v to %+v", shortList(before), shortList(l))
	}
}

func TestBestOfEachPairOfTheTable(t *testing.T) {
	checkBest(t, 3, 10, 9)
	checkBest(t, 0, 6, 8)
	checkBest(t, 0, 4, 7)
	checkBest(t, 3, 1, 6)
	checkBest(t, 0, 3, 5)
	checkBest(t, 0, 2, 4)
	checkBest(t, 0, 1, 3)
	checkBest(t, 0, 0, 2)
	checkBest(t, 1, 0, 1)
}

func TestBestOfOtherPairs(t *testing.T) {
	for platform := -300; platform <= 300; platform++ {
		for encoding := -300; encoding <= 300; encoding++ {
			checkBest(t, platform, encoding, ranks[id{platform, encoding}])
		}
	}
	for x := range ranks {
		for _, n := range append([]int{-1, 11, 255, 256, 65535, 65536, -65536, 1<<32 - 1, -1 << 32}, far...) {
			checkBest(t, n, x.encoding, 0)
			checkBest(t, x.platform, n, 0)
			checkBest(t, n, n, 0)
			checkBest(t, n, -n, 0)
		}
		// Numbers whose lower bytes are those of a pair, or that are as far from 0.
		for _, n := range []int{256, 65536, 1 << 32, math.MinInt} {
			checkBest(t, x.platform+n, x.encoding, 0)
			checkBest(t, x.platform, x.encoding+n, 0)
			checkBest(t, x.platform+n, x.encoding+n, 0)
			checkBest(t, x.platform*65536+x.encoding, 0, ranks[id{x.platform*65536 + x.encoding, 0}])
			checkBest(t, 0, x.platform*65536+x.encoding, ranks[id{0, x.platform*65536 + x.encoding}])
		}
	}
	for platform := range 65536 {
		checkBest(t, platform, 0, ranks[id{platform, 0}])
		checkBest(t, platform, 10, ranks[id{platform, 10}])
		checkBest(t, 0, platform, ranks[id{0, platform}])
		checkBest(t, 3, platform, ranks[id{3, platform}])
		checkBest(t, platform, platform, ranks[id{platform, platform}])
	}
}

func TestReadReadsEachFormat(t *testing.T) {
	small := "\x00\x00\x01\x06\x00\x00" + strings.Repeat("\x00", 65) + "\x07\x09" + strings.Repeat("\x00", 188) + "\xff"
	checkRead(t, small, []api.Span{rising(65, 65, 7), rising(66, 66, 9), rising(255, 255, 255)}, api.OK)
	checkRead(t, "\x00\x04\x00\x20\x00\x00\x00\x04\x00\x04\x00\x01\x00\x00\x00\x43\xff\xff\x00\x00\x00\x41\xff\xff\xff\xc6\x00\x01\x00\x00\x00\x00", []api.Span{rising(65, 67, 7), rising(65535, 65535, 0)}, api.OK)
	checkRead(t, "\x00\x06\x00\x10\x00\x00\x00\x41\x00\x03\x00\x07\x00\x00\x01\x00", []api.Span{rising(65, 65, 7), rising(67, 67, 256)}, api.OK)
	rest := "\x00\x00\x00\x00\x00\x1c\x00\x00\x00\x00\x00\x00\x00\x01\x00\x01\x00\x00\x00\x01\x00\x02\x00\x00\x00\x07"
	checkRead(t, "\x00\x0c"+rest, []api.Span{rising(65536, 65538, 7)}, api.OK)
	checkRead(t, "\x00\x0d"+rest, []api.Span{same(65536, 65538, 7)}, api.OK)
	for _, format := range known {
		checkRead(t, subtable(format, 65, 7), spansOf(format, 65, 7), api.OK)
		checkRead(t, subtable(format, 65, 7)+"more", spansOf(format, 65, 7), api.OK)
	}
}

func TestReadOfShortTexts(t *testing.T) {
	checkRead(t, "", nil, api.ErrMore)
	for b := range 256 {
		checkRead(t, string([]byte{byte(b)}), nil, api.ErrMore)
		for c := range 256 {
			want := api.ErrForm
			if b == 0 && slices.Contains(known, c) {
				want = api.ErrMore
			}
			checkRead(t, string([]byte{byte(b), byte(c)}), nil, want)
		}
	}
}

func TestReadOfEveryFormat(t *testing.T) {
	for _, format := range known {
		right := subtable(format, 65, 7)
		for f := range 65536 {
			s := with(right, 0, pair(f))
			if slices.Contains(known, f) {
				checkReadModel(t, s)
			} else {
				checkRead(t, s, nil, api.ErrForm)
			}
		}
	}
}

func TestReadTellsTheErrorsOfTheLayers(t *testing.T) {
	told := map[api.Errno]int{}
	for _, format := range known {
		right := subtable(format, 65, 7)
		for size := range len(right) + 1 {
			e := checkReadModel(t, right[:size])
			told[e]++
			if size < len(right) && e != api.ErrMore {
				t.Errorf("P11.2: %d of %d bytes of format %d are %d", size, len(right), format, e)
			}
		}
		for at := range min(len(right), 40) {
			for b := range 256 {
				told[checkReadModel(t, with(right, at, string([]byte{byte(b)})))]++
			}
		}
	}
	for _, e := range []api.Errno{api.OK, api.ErrMore, api.ErrForm, api.ErrLong} {
		if told[e] < 50 {
			t.Errorf("P11.2: the texts tell %d only %d times", e, told[e])
		}
	}
}

func TestGetReadsATable(t *testing.T) {
	six := "\x00\x06\x00\x0c\x00\x00\x00\x41\x00\x01\x00\x07"
	other := "\x00\x06\x00\x0c\x00\x00\x00\x42\x00\x01\x00\x08"
	checkGet(t, "\x00\x00\x00\x01\x00\x03\x00\x01\x00\x00\x00\x0c"+six, []api.Span{rising(65, 65, 7)}, api.OK)
	checkGet(t, "\x00\x00\x00\x02\x00\x00\x00\x03\x00\x00\x00\x14\x00\x03\x00\x01\x00\x00\x00\x20"+six+other, []api.Span{rising(66, 66, 8)}, api.OK)
	checkGet(t, "\x00\x00\x00\x02\x00\x00\x00\x04\x00\x00\x00\x14\x00\x03\x00\x01\x00\x00\x00\x20"+six+other, []api.Span{rising(65, 65, 7)}, api.OK)
	checkGet(t, "\x00\x00\x00\x01\x00\x03\x00\x00\x00\x00\x00\x0c"+six, nil, api.ErrNone)
	checkGet(t, "\x00\x00\x00\x00", nil, api.ErrNone)
	checkGet(t, "\x00\x00\x00\x00"+six, nil, api.ErrNone)
}

func TestGetOfTextsOfEachLength(t *testing.T) {
	for _, fill := range []string{"\x00", "\x01", "\x04", "\xff"} {
		for size := range 4 {
			checkGet(t, strings.Repeat(fill, size), nil, api.ErrMore)
		}
	}
	checkGet(t, "\x00\x00\x00\x00", nil, api.ErrNone)
	checkGet(t, "\xff\xff\xff\xff", nil, api.ErrForm)
	checkGet(t, "\x00\x00\xff\xff", nil, api.ErrLong)
	checkGet(t, "\x00\x00\x00\x01", nil, api.ErrMore)
	for _, format := range known {
		for n := range 4 {
			full := table([]int{3, 5, 2}[:n], []string{subtable(6, 65, 7), subtable(format, 66, 8), subtable(12, 67, 9)}[:n]...)
			for size := range len(full) + 1 {
				e := checkModel(t, full[:size])
				if (e == api.ErrMore) != (size < behind(n)) && size < behind(n)+2 {
					t.Errorf("P11.3: %d bytes of a table of %d records are %d", size, n, e)
				}
			}
		}
	}
}

func TestGetOfEachVersion(t *testing.T) {
	right := table([]int{6}, subtable(6, 65, 7))
	checkGet(t, right, spansOf(6, 65, 7), api.OK)
	for v := 1; v < 65536; v++ {
		checkGet(t, with(right, 0, pair(v)), nil, api.ErrForm)
	}
	// A wrong version comes ahead of too many records, and of missing ones.
	for _, v := range []int{1, 255, 256, 32768, 65535} {
		for _, n := range []int{0, 1, 64, 65, 65535} {
			checkGet(t, pairs(v, n), nil, api.ErrForm)
			checkGet(t, pairs(v, n)+strings.Repeat("\x00", 600000), nil, api.ErrForm)
			checkGet(t, pairs(v, n)[:3], nil, api.ErrMore)
		}
	}
}

func TestGetOfEachNumberOfRecords(t *testing.T) {
	const most = 70
	sub := subtable(6, 65, 7)
	for n := range most {
		for place := range n {
			// Only one of the records has a rank.
			l := slices.Repeat([]record{recordOf(0, behind(n))}, n)
			l[place] = recordOf(1, behind(n))
			s := head(l...) + sub
			if n > 64 {
				checkGet(t, s, nil, api.ErrLong)
			} else {
				checkGet(t, s, spansOf(6, 65, 7), api.OK)
			}
		}
		// Its end is one byte ahead of the end of the last record, just there, and one byte behind it.
		s := head(slices.Repeat([]record{recordOf(9, 1000)}, n)...)
		missing, nothing := api.ErrMore, api.ErrNone
		if n > 64 {
			missing, nothing = api.ErrLong, api.ErrLong
		}
		if n > 0 {
			checkGet(t, s[:len(s)-1], nil, missing)
			checkGet(t, s[:4], nil, missing)
		}
		checkGet(t, s, nil, nothing)
		checkGet(t, s+"\x00", nil, nothing)
		checkGet(t, s+"\x00\x06", nil, nothing)
	}
	// Too many records come ahead of missing ones.
	for n := 65; n < 65536; n++ {
		checkGet(t, pairs(0, n), nil, api.ErrLong)
	}
	full := strings.Repeat("\x00", 600000)
	for _, n := range []int{65, 66, 128, 255, 256, 257, 320, 32768, 65535} {
		checkGet(t, pairs(0, n)+full, nil, api.ErrLong)
	}
}

func TestGetTakesTheLastOfManyRecords(t *testing.T) {
	for rank := 1; rank <= 9; rank++ {
		for n := 1; n <= 64; n++ {
			l := slices.Repeat([]record{recordOf(rank-1, behind(n))}, n)
			l[n-1] = recordOf(rank, behind(n)+12)
			checkGet(t, head(l...)+subtable(6, 65, 7)+subtable(6, 66, 8), spansOf(6, 66, 8), api.OK)
		}
	}
}

func TestGetOfEachPairOfAPlatformAndAnEncoding(t *testing.T) {
	right := table([]int{6}, subtable(6, 65, 7))
	check := func(platform, encoding int) {
		t.Helper()
		s := with(right, 4, pairs(platform, encoding))
		if ranks[id{platform, encoding}] > 0 {
			checkGet(t, s, spansOf(6, 65, 7), api.OK)
		} else {
			checkGet(t, s, nil, api.ErrNone)
		}
	}
	for n := range 300 {
		for m := range 300 {
			check(n, m)
		}
	}
	for n := range 65536 {
		for _, m := range []int{0, 1, 3, 10} {
			check(n, m)
			check(m, n)
		}
	}
}

func TestGetOfEachOffset(t *testing.T) {
	for _, format := range append([]int{1, 5, 14}, known...) {
		for n := 1; n <= 13; n++ {
			l := slices.Repeat([]record{recordOf(0, 0)}, n)
			size := behind(n) + len(subtable(format, 65, 7))
			for offset := range size + 4 {
				l[n-1] = recordOf(9, offset)
				s := head(l...) + subtable(format, 65, 7)
				e := checkModel(t, s)
				if offset == behind(n) && (e == api.OK) != slices.Contains(known, format) {
					t.Errorf("P11.3: a subtable of format %d is %d", format, e)
				}
				if offset > size-2 && e != api.ErrNone {
					t.Errorf("P11.3: with the offset %d of %d bytes Get is %d", offset, size, e)
				}
			}
		}
	}
}

func TestGetOfOffsetsAtTheEdges(t *testing.T) {
	// At the beginning the version is a format 0, whose length is the number of records.
	checkGet(t, head(recordOf(9, 0))+subtable(6, 65, 7), nil, api.ErrForm)
	checkGet(t, head(recordOf(9, 0), recordOf(8, 20))+subtable(6, 65, 7), nil, api.ErrForm)
	checkGet(t, head(recordOf(8, 20), recordOf(9, 0))+subtable(6, 65, 7), nil, api.ErrForm)
	checkGet(t, head(recordOf(8, 0), recordOf(9, 20))+subtable(6, 65, 7), spansOf(6, 65, 7), api.OK)
	// There the number of records is a format; its length is the platform of the first one.
	four := slices.Repeat([]record{recordOf(9, 2)}, 4)
	checkGet(t, head(four...), nil, api.ErrForm)
	checkGet(t, head(append(four[:3:3], recordOf(9, 36))...)+subtable(6, 65, 7), nil, api.ErrForm)
	checkGet(t, head(append(four[:2:2], recordOf(9, 2))...)+subtable(6, 65, 7), nil, api.ErrNone)
	// A subtable of format 6 that begins in the records of a table of two of them.
	checkGet(t, pairs(0, 2, 3, 10, 0, 12, 6, 12, 0, 65, 1, 7), spansOf(6, 65, 7), api.OK)
	checkGet(t, pairs(0, 2, 3, 10, 0, 12, 6, 10, 0, 65, 0), nil, api.OK)
	checkGet(t, pairs(0, 2, 3, 10, 0, 12, 6, 12, 0, 65), nil, api.ErrMore)
	checkGet(t, pairs(0, 2, 3, 10, 0, 14, 6, 12, 0, 65, 1, 7), nil, api.ErrMore)
	checkGet(t, pairs(0, 2, 3, 10, 0, 11, 6, 12, 0, 65, 1, 7), nil, api.ErrNone)
	for _, format := range known {
		s := head(recordOf(9, 12))
		checkGet(t, s+pair(format), nil, api.ErrMore)
		checkGet(t, s+pair(format)[:1], nil, api.ErrNone)
		checkGet(t, s, nil, api.ErrNone)
		checkGet(t, head(recordOf(9, 13))+pair(format), nil, api.ErrNone)
		checkGet(t, head(recordOf(9, 14))+pair(format), nil, api.ErrNone)
		checkGet(t, head(recordOf(9, 15))+pair(format), nil, api.ErrNone)
		checkGet(t, head(recordOf(9, 14))+pairs(format, format), nil, api.ErrMore)
	}
	for _, offset := range []int{100, 65535, 65536 + 20, 1<<24 + 20, 1<<31 - 2, 1<<31 - 1, 1 << 31, 1<<31 + 20, 1<<31 + 1, 1<<32 - 20, 1<<32 - 2, 1<<32 - 1} {
		for rank := range 10 {
			checkGet(t, head(recordOf(rank, offset))+subtable(6, 65, 7), nil, api.ErrNone)
			checkGet(t, head(recordOf(rank, offset), recordOf(1, 20))+subtable(6, 65, 7), spansOf(6, 65, 7), api.OK)
			checkGet(t, head(recordOf(1, 20), recordOf(rank, offset))+subtable(6, 65, 7), spansOf(6, 65, 7), api.OK)
		}
	}
}

func TestGetReadsEachByteOfAnOffset(t *testing.T) {
	const far = 1<<24 + 3*65536 + 2*256 + 5
	s := head(recordOf(9, far))
	s += strings.Repeat("\xff", far-len(s)) + subtable(12, 70000, 7)
	checkGet(t, s, spansOf(12, 70000, 7), api.OK)
	for _, other := range []int{far - 1, far + 1, far - 256, far - 65536, far - 1<<24, far + 1<<24, far + 1<<31} {
		checkGet(t, with(s, 8, quad(other)), nil, api.ErrNone)
	}
}

func TestGetOfEachFormat(t *testing.T) {
	for _, format := range known {
		right := table([]int{7}, subtable(format, 65, 7))
		checkGet(t, right, spansOf(format, 65, 7), api.OK)
		for f := range 65536 {
			s := with(right, 12, pair(f))
			if slices.Contains(known, f) {
				checkModel(t, s)
			} else {
				checkGet(t, s, nil, api.ErrNone)
			}
		}
	}
}

func TestGetOfRecordsWithoutARank(t *testing.T) {
	for _, format := range known {
		sub := subtable(format, 65, 7)
		for n := range 65 {
			l := slices.Repeat([]record{recordOf(0, behind(n))}, n)
			checkGet(t, head(l...)+sub, nil, api.ErrNone)
		}
		for _, x := range []id{{0, 5}, {0, 7}, {1, 1}, {2, 0}, {3, 0}, {3, 2}, {3, 9}, {3, 11}, {4, 0}, {10, 3}, {6, 0}, {256, 0}, {3, 256 + 10}, {65535, 65535}} {
			checkGet(t, head(record{x, 12})+sub, nil, api.ErrNone)
			checkGet(t, head(record{x, 28}, recordOf(1, 28), record{x, 28})+sub, spansOf(format, 65, 7), api.OK)
		}
	}
}

func TestGetTakesTheGreatestRank(t *testing.T) {
	for first := range 10 {
		for second := range 10 {
			for third := range 10 {
				given := []int{first, second, third}
				s := table(given, subtable(6, 65, 7), subtable(4, 66, 8), subtable(12, 67, 9))
				best := slices.Max(given)
				if best == 0 {
					checkGet(t, s, nil, api.ErrNone)
					continue
				}
				i := slices.Index(given, best)
				checkGet(t, s, spansOf([]int{6, 4, 12}[i], 65+i, 7+i), api.OK)
			}
		}
	}
}

func TestGetTakesTheFirstOfTheSameRank(t *testing.T) {
	for rank := 1; rank <= 9; rank++ {
		for n := 2; n <= 64; n++ {
			l := make([]record, n)
			subs := ""
			for i := range l {
				l[i] = recordOf(rank, behind(n)+12*i)
				subs += subtable(6, 65+i, 7)
			}
			checkGet(t, head(l...)+subs, spansOf(6, 65, 7), api.OK)
			// The first of those that are usable is taken.
			for skip := range n {
				l[skip].offset = []int{1 << 31, behind(n) + 8}[skip%2]
				if skip == n-1 {
					checkGet(t, head(l...)+subs, nil, api.ErrNone)
				} else {
					checkGet(t, head(l...)+subs, spansOf(6, 66+skip, 7), api.OK)
				}
			}
		}
	}
}

func TestGetLeavesOutRecordsThatAreNotUsable(t *testing.T) {
	wrong := []string{"", "\x00", "\x06", "\x00\x02", "\x00\x01rest", "\x00\x03", "\x00\x05", "\x00\x07", "\x00\x08rest", "\x00\x0a", "\x00\x0b", "\x00\x0e", "\x01\x06", "\x06\x00", "\xff\xff", "\x80\x00"}
	for rank := 1; rank <= 9; rank++ {
		for _, w := range wrong {
			for better := range 10 {
				checkGet(t, table([]int{rank, better}, subtable(6, 65, 7), w), spansOf(6, 65, 7), api.OK)
				if len(w) >= 2 {
					checkGet(t, table([]int{better, rank}, w, subtable(6, 65, 7)), spansOf(6, 65, 7), api.OK)
					checkGet(t, table([]int{better, rank}, w, w), nil, api.ErrNone)
				}
			}
		}
	}
}

func TestGetTellsTheErrorOfAUsableSubtable(t *testing.T) {
	wrong := []struct {
		s string
		e api.Errno
	}{
		{pairs(0, 262, 0, 1), api.ErrMore}, {pairs(0, 261), api.ErrForm}, {pairs(4, 32), api.ErrMore}, {pairs(4, 32, 0, 0, 0, 0, 0), api.ErrForm}, {pairs(6, 12, 0, 65, 1), api.ErrMore},
		{pairs(6, 13, 0, 65, 1, 7), api.ErrForm}, {pairs(12, 0, 0, 28), api.ErrMore}, {pairs(12, 0, 0, 28, 0, 0, 1, 1), api.ErrLong}, {pairs(13, 0, 0, 28, 0, 0, 1, 1), api.ErrLong}, {pairs(13, 0, 0, 28, 0, 0, 0, 2), api.ErrForm},
	}
	for _, w := range wrong {
		checkRead(t, w.s, nil, w.e)
		checkGet(t, table([]int{3}, w.s), nil, w.e)
		// There is no other try, and those of lower ranks are not asked.
		for rank := 1; rank <= 9; rank++ {
			checkGet(t, table([]int{rank, rank}, w.s+strings.Repeat("\xff", 40), subtable(6, 65, 7))[:20+len(w.s)], nil, w.e)
			for lower := range rank {
				checkGet(t, table([]int{lower, rank}, subtable(6, 65, 7), w.s), nil, w.e)
				checkGet(t, table([]int{rank, lower}, subtable(6, 65, 7), w.s), spansOf(6, 65, 7), api.OK)
				// A subtable goes on behind its own end, if the table does.
				checkModel(t, table([]int{rank, lower}, w.s, subtable(6, 65, 7)))
			}
		}
	}
	// What is behind a subtable is there for it too.
	checkGet(t, head(recordOf(9, 12))+subtable(6, 65, 7)+"rest", spansOf(6, 65, 7), api.OK)
	checkGet(t, head(recordOf(9, 20), recordOf(8, 28))+pairs(6, 18, 0, 65, 4, 4, 6, 7, 8), []api.Span{rising(65, 65, 4), rising(66, 66, 6), rising(67, 67, 7), rising(68, 68, 8)}, api.OK)
}

func TestGetTellsTheFirstError(t *testing.T) {
	for faults := range 16 {
		version, n, size, usable := 0, 2, 20, true
		if faults&1 != 0 {
			version = 1
		}
		if faults&2 != 0 {
			n = 65
			size = behind(65)
		}
		l := slices.Repeat([]record{recordOf(6, size)}, n)
		if faults&8 != 0 {
			usable = false
			l = slices.Repeat([]record{recordOf(6, size+1)}, n)
		}
		s := pair(version) + head(l...)[2:] + subtable(6, 65, 7)
		if faults&4 != 0 {
			s = s[:size-1]
		}
		want := api.OK
		switch {
		case version != 0:
			want = api.ErrForm
		case n > 64:
			want = api.ErrLong
		case len(s) < size:
			want = api.ErrMore
		case !usable:
			want = api.ErrNone
		}
		if e := checkModel(t, s); e != want {
			t.Errorf("P11.3: the faults %b are %d, not %d", faults, e, want)
		}
		checkGet(t, s[:3], nil, api.ErrMore)
	}
}

// someTable is one of all kinds, most of them right.
func someTable(next func(int) int) string {
	n := []int{0, 1, 1, 2, 3, 5, 64, 65}[next(8)]
	var l []record
	at, subs := behind(n), ""
	for range n {
		format := append([]int{1, next(16)}, known...)[next(7)]
		r := recordOf(next(10), at+len(subs))
		switch next(8) {
		case 0:
			r.offset = next(at + len(subs) + 40)
		case 1:
			r.offset = next(1 << 32)
		case 2:
			r.id = id{next(5), next(12)}
		}
		l = append(l, r)
		subs += subtable(format, 65+next(100), 1+next(200))
	}
	s := []byte(head(l...) + subs)
	for range []int{0, 0, 0, 1, 5}[next(5)] {
		s[next(len(s))] = []byte{0, 1, 4, 6, 12, 255, byte(next(256))}[next(7)]
	}
	if next(5) == 0 {
		s = s[:next(len(s)+1)]
	}
	return string(s)
}

func TestGetOfTablesOfAllKinds(t *testing.T) {
	next := source(1)
	told := map[api.Errno]int{}
	for range 12000 {
		told[checkModel(t, someTable(next))]++
	}
	for _, e := range []api.Errno{api.OK, api.ErrMore, api.ErrForm, api.ErrNone, api.ErrLong} {
		if told[e] < 300 {
			t.Errorf("P11.3: the tables tell %d only %d times", e, told[e])
		}
	}
}

func TestPutWritesATable(t *testing.T) {
	l := []api.Span{rising(65, 66, 7)}
	checkPut(t, l, 0, "\x00\x00\x00\x01\x00\x01\x00\x00\x00\x00\x00\x0c"+"\x00\x00\x01\x06\x00\x00"+strings.Repeat("\x00", 65)+"\x07\x08"+strings.Repeat("\x00", 189), api.OK)
	checkPut(t, l, 4, "\x00\x00\x00\x01\x00\x03\x00\x01\x00\x00\x00\x0c"+"\x00\x04\x00\x20\x00\x00\x00\x04\x00\x04\x00\x01\x00\x00\x00\x42\xff\xff\x00\x00\x00\x41\xff\xff\xff\xc6\x00\x01\x00\x00\x00\x00", api.OK)
	checkPut(t, l, 6, "\x00\x00\x00\x01\x00\x03\x00\x01\x00\x00\x00\x0c"+"\x00\x06\x00\x0e\x00\x00\x00\x41\x00\x02\x00\x07\x00\x08", api.OK)
	checkPut(t, l, 12, "\x00\x00\x00\x01\x00\x03\x00\x0a\x00\x00\x00\x0c"+"\x00\x0c\x00\x00\x00\x00\x00\x1c\x00\x00\x00\x00\x00\x00\x00\x01\x00\x00\x00\x41\x00\x00\x00\x42\x00\x00\x00\x07", api.OK)
	checkPut(t, l, 13, "\x00\x00\x00\x01\x00\x03\x00\x0a\x00\x00\x00\x0c"+"\x00\x0d\x00\x00\x00\x00\x00\x28\x00\x00\x00\x00\x00\x00\x00\x02\x00\x00\x00\x41\x00\x00\x00\x41\x00\x00\x00\x07\x00\x00\x00\x42\x00\x00\x00\x42\x00\x00\x00\x08", api.OK)
}

// wrong are lists that are not valid.
func wrong() [][]api.Span {
	l := [][]api.Span{
		{{From: -1}},
		{{From: -1, To: 5, Glyph: 7}},
		{{From: 1}},
		{{From: 5, To: 4, Glyph: 7, Step: 1}},
		{{To: 1114112}},
		{{From: 1114112, To: 1114112}},
		{{Step: -1}},
		{{Step: 2}},
		{{To: 3, Glyph: 7, Step: 2}},
		{{Glyph: -1}},
		{{To: 1, Glyph: -1, Step: 1}},
		{{Glyph: 65536}},
		{{To: 1, Glyph: 65535, Step: 1}},
		{{To: 65535, Glyph: 1, Step: 1}},
		{{}, {}},
		{{To: 5, Glyph: 1}, {From: 5, To: 9, Glyph: 2}},
		{{From: 5, To: 9, Glyph: 2}, {To: 4, Glyph: 1}},
		{{To: 1114111}, {From: 1114111, To: 1114111}},
		ones(65537, 0, 0),
		ones(65537, 0, 1),
	}
	for _, n := range far {
		l = append(l, []api.Span{{From: n, To: n}}, []api.Span{{Glyph: n}}, []api.Span{{Step: n}}, []api.Span{{To: 5, Glyph: n, Step: 1}}, []api.Span{{From: n, To: n, Glyph: n, Step: n}})
	}
	return l
}

// ones are n spans of a rune each, from a rune on.
func ones(n, from, g int) []api.Span {
	l := make([]api.Span, n)
	for i := range l {
		l[i] = rising(from+i, from+i, g)
	}
	return l
}

func TestPutOfListsThatAreNotValid(t *testing.T) {
	for _, l := range wrong() {
		for _, format := range append([]int{-1, 2, 14}, known...) {
			checkPut(t, l, format, "", api.ErrArg)
			checkPut(t, append(slices.Clone(l), same(0, 1114111, 65535)), format, "", api.ErrArg)
		}
	}
}

// hard is a list, with the formats that refuse it with ErrLong.
type hard struct {
	l       []api.Span
	refuses []int
}

func hardLists() []hard {
	return []hard{
		{nil, nil},
		{[]api.Span{}, nil},
		{[]api.Span{same(0, 1114111, 0)}, nil},
		{[]api.Span{rising(0, 255, 0)}, nil},
		{[]api.Span{same(0, 255, 255)}, nil},
		{[]api.Span{same(255, 255, 256)}, []int{0}},
		{[]api.Span{same(256, 256, 255)}, []int{0}},
		{[]api.Span{same(255, 256, 0), same(257, 257, 1)}, []int{0}},
		{[]api.Span{same(65535, 65535, 1)}, []int{0}},
		{[]api.Span{same(65536, 65536, 1)}, []int{0, 4, 6}},
		{[]api.Span{same(65535, 65536, 1)}, []int{0, 4, 6}},
		{[]api.Span{same(1114111, 1114111, 65535)}, []int{0, 4, 6}},
		{[]api.Span{rising(0, 32761, 1)}, []int{0}},
		{[]api.Span{rising(0, 32762, 1)}, []int{0, 6}},
		{[]api.Span{rising(0, 65535, 0)}, []int{0, 6}},
		{[]api.Span{same(0, 65535, 1)}, []int{0, 4, 6}},
		{[]api.Span{same(0, 65536, 1)}, []int{0, 4, 6, 12}},
		{[]api.Span{same(0, 1114111, 1)}, []int{0, 4, 6, 12}},
		{[]api.Span{rising(0, 65535, 0), rising(65536, 65537, 0)}, []int{0, 4, 6}},
		{[]api.Span{rising(0, 65535, 0), rising(65536, 65538, 0)}, []int{0, 4, 6, 13}},
		{[]api.Span{same(0, 65536, 1), rising(70000, 80000, 3), rising(100000, 160000, 5)}, []int{0, 4, 6, 12, 13}},
		{ones(8188, 0, 5), []int{0}},
		{ones(8189, 0, 5), []int{0, 4}},
		{ones(65536, 0, 5), []int{0, 4, 6}},
	}
}

func TestPutOfSpansThatFormatsRefuse(t *testing.T) {
	for _, k := range hardLists() {
		for _, format := range known {
			want := api.OK
			if slices.Contains(k.refuses, format) {
				want = api.ErrLong
			}
			if e := checkPutModel(t, k.l, format); e != want {
				t.Errorf("P11.4: Put(%+v, of %d, %d) is %d, not %d", shortList(k.l), len(k.l), format, e, want)
			}
		}
	}
}

func TestPutOfEachFormat(t *testing.T) {
	lists := [][]api.Span{nil, {same(5, 5, 7)}, {rising(5, 6, 7)}, {{From: 1}}, {{Step: 2}}, {same(0, 70000, 1)}, {same(0, 65536, 1), rising(70000, 140000-5000, 3)}}
	for _, l := range lists {
		for format := -300; format <= 300; format++ {
			e := checkPutModel(t, l, format)
			if !slices.Contains(known, format) && e != api.ErrArg {
				t.Errorf("P11.4: the model's Put(%+v, %d) is %d", l, format, e)
			}
		}
		for _, format := range known {
			for _, n := range []int{256, 65536, 1 << 31, 1 << 32, math.MinInt, -256, -65536} {
				checkPut(t, l, format+n, "", api.ErrArg)
			}
			if format > 0 {
				checkPut(t, l, -format, "", api.ErrArg)
			}
		}
		for _, format := range far {
			checkPut(t, l, format, "", api.ErrArg)
		}
	}
}

func TestPutOfListsOfAllKinds(t *testing.T) {
	next := source(2)
	var told [5]map[api.Errno]int
	for i := range told {
		told[i] = map[api.Errno]int{}
	}
	for range 3000 {
		from := []int{0, 0, 0, 100, 65400, 65500, 1113700, 1114090, next(1114112)}[next(9)]
		l := someSpans(next, next(12), from, []int{1, 255, 256, 65535}[next(4)])
		for i, format := range known {
			told[i][checkPutModel(t, l, format)]++
		}
	}
	for i, format := range known {
		if told[i][api.OK] < 400 || told[i][api.ErrArg] < 50 || format < 12 && told[i][api.ErrLong] < 300 {
			t.Errorf("P11.4: the lists do not tell all results of format %d often: %v", format, told[i])
		}
	}
}

func TestWhatIsWrittenHasTheSameGlyphsWhenReadAgain(t *testing.T) {
	l := []api.Span{rising(0, 3, 0), same(10, 12, 4), rising(65, 90, 7), same(91, 99, 0), rising(200, 255, 100)}
	for _, format := range known {
		s, e := cmap.Put(l, format)
		if e != api.OK {
			t.Fatalf("P11.4: format %d: %d", format, e)
		}
		m, e := cmap.Get(s)
		if e != api.OK || !chart.Is(m) {
			t.Fatalf("P11.6: format %d: %d", format, e)
		}
		for c := -10; c < 70000; c++ {
			if g, want := chart.Look(m, c), chart.Look(l, c); g != want {
				t.Errorf("P11.6: the rune %d has the glyph %d, not %d, when written in format %d and read again", c, g, want, format)
			}
		}
		for c := 1114000; c < 1114120; c++ {
			if g := chart.Look(m, c); g != 0 {
				t.Errorf("P11.6: the rune %d has the glyph %d in format %d", c, g, format)
			}
		}
	}
}

func TestWhatGetAnswersIsWrittenAgain(t *testing.T) {
	for _, read := range known {
		l, e := cmap.Get(table([]int{4}, subtable(read, 65, 7)))
		if e != api.OK {
			t.Fatalf("P11.3: format %d: %d", read, e)
		}
		for _, format := range known {
			if e := checkPutModel(t, l, format); e != api.OK {
				t.Errorf("P11.4: what is read of format %d is not written as %d: %d", read, format, e)
			}
		}
	}
}

// withRecord is a table, whose offsets lead behind its records, with one record more behind the last; its own offset is told from the table's end.
func withRecord(s string, rank, offset int) string {
	n := integer(s, 2, 2)
	var l []record
	for i := range n {
		at := behind(i)
		l = append(l, record{id{integer(s, at, 2), integer(s, at+2, 2)}, integer(s, at+4, 4) + 8})
	}
	l = append(l, recordOf(rank, len(s)+8+offset))
	return head(l...) + s[behind(n):]
}

func TestOneRecordMore(t *testing.T) {
	for rank := 1; rank <= 9; rank++ {
		for _, n := range []int{1, 2, 5, 63} {
			// The last of the records is the best one.
			given := append(slices.Repeat([]int{rank - 1}, n-1), rank)
			subs := append(slices.Repeat([]string{subtable(6, 65, 7)}, n-1), subtable(12, 66, 8))
			s := table(given, subs...)
			checkGet(t, s, spansOf(12, 66, 8), api.OK)
			for more := range 10 {
				usable := withRecord(s, more, 0) + subtable(4, 67, 9)
				want := spansOf(12, 66, 8)
				if more > rank {
					want = spansOf(4, 67, 9)
				}
				l, e := cmap.Get(usable)
				if e != api.OK || !slices.Equal(l, want) {
					t.Errorf("P11.6: with one more record of rank %d behind %d, the best one of rank %d, Get is %+v, %d, not %+v", more, n, rank, l, e, want)
				}
				// One that is not usable makes no difference, whatever its rank.
				for _, other := range []string{withRecord(s, more, 0), withRecord(s, more, 1) + "\x00\x06", withRecord(s, more, 1<<31), withRecord(s, more, 0) + "\x00\x02rest"} {
					l, e := cmap.Get(other)
					if e != api.OK || !slices.Equal(l, spansOf(12, 66, 8)) {
						t.Errorf("P11.6: one more record of rank %d, not usable, behind %d makes Get %+v, %d", more, n, l, e)
					}
				}
				// One whose subtable has an error makes none unless its rank is greater.
				l, e = cmap.Get(withRecord(s, more, 0) + "\x00\x0c")
				if more > rank && (e != api.ErrMore || l != nil) || more <= rank && (e != api.OK || !slices.Equal(l, spansOf(12, 66, 8))) {
					t.Errorf("P11.6: one more record of rank %d, with an error, behind %d of rank %d makes Get %+v, %d", more, n, rank, l, e)
				}
			}
		}
	}
}

func TestOneRecordMoreBehindWhatPutWrites(t *testing.T) {
	next := source(3)
	for range 500 {
		l := someSpans(next, 1+next(8), next(100), 255)
		for i, format := range known {
			s, e := cmap.Put(l, format)
			if e != api.OK {
				continue
			}
			want, _ := cmap.Get(s)
			for more := range []int{2, 7, 7, 10, 10}[i] {
				m, e := cmap.Get(withRecord(s, more, 0) + subtable(6, 300, 7))
				if e != api.OK || !slices.Equal(m, want) {
					t.Errorf("P11.6: one more record of rank %d behind the one that Put(%+v, %d) writes makes Get %+v, %d", more, shortList(l), format, shortList(m), e)
				}
			}
		}
	}
}

func TestGlyphOfListsThatAreNotValid(t *testing.T) {
	for _, l := range wrong() {
		for _, c := range append([]int{0, 1, 5}, far...) {
			for _, glyphs := range append([]int{0, 1, 65535}, far...) {
				checkGlyph(t, l, c, glyphs, 0, api.ErrArg)
			}
		}
	}
}

func TestGlyphOfRunesWithAndWithoutOne(t *testing.T) {
	l := []api.Span{rising(0, 2, 0), same(5, 7, 9), rising(9, 9, 65535), same(10, 20, 0), rising(1114111, 1114111, 3)}
	glyphs := map[int]int{1: 1, 2: 2, 5: 9, 6: 9, 7: 9, 9: 65535, 1114111: 3}
	check := func(c int) {
		t.Helper()
		g := glyphs[c]
		if g == 0 {
			for _, n := range append([]int{-1, 0, 1, 2, 10, 65535, 65536}, far...) {
				checkGlyph(t, l, c, n, 0, api.ErrGlyph)
			}
			return
		}
		for _, n := range append([]int{-g, -g - 1, -1, 0, 1, 2, 3, 4, 9, 10, g - 1, g, g + 1, 65535, 65536}, far...) {
			if n > g {
				checkGlyph(t, l, c, n, g, api.OK)
			} else {
				checkGlyph(t, l, c, n, 0, api.ErrGlyph)
			}
		}
	}
	for c := -30; c < 100; c++ {
		check(c)
	}
	for c := 1114090; c < 1114200; c++ {
		check(c)
	}
	for _, c := range append([]int{1<<32 + 5, 1<<32 + 1114111, math.MinInt + 5, 65536 + 5, 256 + 5}, far...) {
		check(c)
	}
}

func TestGlyphOfListsWithoutSpans(t *testing.T) {
	for _, c := range append([]int{0, 65, 1114111, 1114112, -1}, far...) {
		for _, glyphs := range append([]int{-1, 0, 1, 65535}, far...) {
			checkGlyph(t, nil, c, glyphs, 0, api.ErrGlyph)
			checkGlyph(t, []api.Span{}, c, glyphs, 0, api.ErrGlyph)
		}
	}
}

func TestGlyphBesideLook(t *testing.T) {
	next := source(4)
	for range 3000 {
		l := someSpans(next, next(10), next(50), []int{1, 9, 65535}[next(3)])
		for range 20 {
			c := next(300)
			g := chart.Look(l, c)
			for _, glyphs := range []int{g - 1, g, g + 1, 0, -1, next(65536)} {
				if g == 0 || g >= glyphs {
					checkGlyph(t, l, c, glyphs, 0, api.ErrGlyph)
				} else {
					checkGlyph(t, l, c, glyphs, g, api.OK)
				}
			}
		}
	}
}

func TestAnswersShareNoMemory(t *testing.T) {
	for _, format := range known {
		s := table([]int{9, 9}, subtable(format, 65, 7), subtable(6, 66, 8))
		first, _ := cmap.Get(s)
		second, _ := cmap.Get(s)
		third, _ := cmap.Read(s[20:])
		for i := range first {
			first[i] = api.Span{From: -1}
		}
		again, _ := cmap.Get(s)
		for _, l := range [][]api.Span{second, third, again} {
			if !slices.Equal(l, spansOf(format, 65, 7)) {
				t.Errorf("R2, R3: a change of one answer of Get changed another: %+v", l)
			}
		}
	}
}
