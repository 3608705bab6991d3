package cover_test

import (
	"math"
	"slices"
	"strings"
	"testing"

	"vinculum/api"
	"vinculum/cover"
)

// far are numbers that no glyph and no offset reaches, most of which have 16 low bits that a glyph could have.
var far = []int{math.MinInt, math.MinInt + 1, math.MinInt + 5, math.MinInt32, -65536, -65535, -65531, -2, 65536, 65541, 131071, math.MaxInt32, 1 << 32, 1<<32 + 5, 1 << 62, 1<<62 + 5, math.MaxInt - 4, math.MaxInt - 1, math.MaxInt}

// words are numbers' bytes, two for each, one behind the other.
func words(l ...int) string {
	var b strings.Builder
	for _, n := range l {
		b.WriteByte(byte(n >> 8))
		b.WriteByte(byte(n))
	}
	return b.String()
}

// listTable is a table of format 1 whose count is right.
func listTable(l ...int) string { return words(1, len(l)) + words(l...) }

// row is a range's numbers.
type row struct{ first, last, before int }

// rangeTable is a table of format 2 whose count is right.
func rangeTable(l ...row) string {
	var b strings.Builder
	b.WriteString(words(2, len(l)))
	for _, x := range l {
		b.WriteString(words(x.first, x.last, x.before))
	}
	return b.String()
}

// with is a text whose bytes from a place on are others.
func with(s string, at int, other string) string { return s[:at] + other + s[at+len(other):] }

// upTo are the glyphs from the first to the last one.
func upTo(first, last int) []int {
	var l []int
	for g := first; g <= last; g++ {
		l = append(l, g)
	}
	return l
}

// every are n glyphs, of which each is a step above the one before.
func every(n, first, step int) []int {
	l := make([]int, n)
	for i := range l {
		l[i] = first + step*i
	}
	return l
}

// isRight is by the words of the chapter, each glyph on its own.
func isRight(l []int) bool {
	for i := range l {
		if l[i] < 0 || l[i] > 65534 {
			return false
		}
	}
	for i := 1; i < len(l); i++ {
		if l[i-1] >= l[i] {
			return false
		}
	}
	return true
}

// modelGet reads a table by the words of P12.2, one after the other, with byte positions; ranges are asked ahead of making any list.
func modelGet(s string, at int) ([]int, api.Errno) {
	if at < 0 {
		return nil, api.ErrArg
	}
	if at > len(s) || len(s)-at < 4 {
		return nil, api.ErrMore
	}
	s = s[at:]
	integer := func(i int) int { return int(s[2*i])*256 + int(s[2*i+1]) }
	format, n := integer(0), integer(1)
	switch {
	case format == 1 && len(s) < 4+2*n, format == 2 && len(s) < 4+6*n:
		return nil, api.ErrMore
	case format == 1:
		l := make([]int, n)
		for i := range l {
			l[i] = integer(2 + i)
		}
		if !isRight(l) {
			return nil, api.ErrForm
		}
		return l, api.OK
	case format != 2:
		return nil, api.ErrForm
	}
	sum := 0
	for i := range n {
		first, last, before := integer(2+3*i), integer(3+3*i), integer(4+3*i)
		if last < first || last > 65534 || before != sum || i > 0 && first <= integer(3*i) {
			return nil, api.ErrForm
		}
		sum += last - first + 1
	}
	var l []int
	for i := range n {
		l = append(l, upTo(integer(2+3*i), integer(3+3*i))...)
	}
	return l, api.OK
}

// rows are the longest ranges of a valid list: those that no glyph beside them continues.
func rows(l []int) []row {
	has := make([]bool, 65537)
	for _, g := range l {
		has[g+1] = true
	}
	var all []row
	for i, g := range l {
		if !has[g] {
			all = append(all, row{first: g, before: i})
		}
		if !has[g+2] {
			all[len(all)-1].last = g
		}
	}
	return all
}

// modelPut writes both formats, and takes the shorter text.
func modelPut(l []int) (string, api.Errno) {
	if !isRight(l) {
		return "", api.ErrArg
	}
	a, b := listTable(l...), rangeTable(rows(l)...)
	if len(b) < len(a) {
		return b, api.OK
	}
	return a, api.OK
}

// modelFind goes through the whole list.
func modelFind(l []int, g int) (int, bool) {
	at := slices.Index(l, g)
	if at < 0 || !isRight(l) {
		return 0, false
	}
	return at, true
}

// source gives numbers below a bound; the same seed gives the same ones.
func source(seed int) func(int) int {
	bits := uint64(seed)*2862933555777941757 + 3037000493
	return func(bound int) int {
		bits = bits*6364136223846793005 + 1442695040888963407
		return int((bits >> 33) % uint64(bound))
	}
}

// someGlyphs are of some ranges, with gaps between most of them, from a glyph on; they are valid, if they do not go beyond the last glyph.
func someGlyphs(next func(int) int, ranges, from int) []int {
	var l []int
	for range ranges {
		last := from + []int{0, 0, 0, 1, 2, next(5), next(40)}[next(7)]
		l = append(l, upTo(from, last)...)
		from = last + 1 + []int{0, 1, 1, next(9)}[next(4)]
	}
	return l
}

// of are the elements of a list whose bits are set.
func of(l []int, bits int) []int {
	var some []int
	for i, g := range l {
		if bits>>i&1 == 1 {
			some = append(some, g)
		}
	}
	return some
}

func shortList[T any](l []T) []T { return l[:min(len(l), 20)] }

func shortText(s string) string { return s[:min(len(s), 80)] }

func checkIs(t *testing.T, l []int, want bool) {
	t.Helper()
	before := slices.Clone(l)
	if is := cover.Is(l); is != want {
		t.Errorf("P12.1: Is(%v, of %d) is %v", shortList(l), len(l), is)
	}
	if !slices.Equal(l, before) {
		t.Errorf("R2: Is changed the glyphs from %v to %v", shortList(before), shortList(l))
	}
}

// checkGet holds Get against what is asked, and writes again what is read.
func checkGet(t *testing.T, s string, at int, want []int, wantE api.Errno) {
	t.Helper()
	l, e := cover.Get(s, at)
	if !slices.Equal(l, want) || e != wantE {
		t.Errorf("P12.2: Get(%q, of %d bytes, %d) is %v, of %d, %d, not %v, of %d, %d", shortText(s), len(s), at, shortList(l), len(l), e, shortList(want), len(want), wantE)
	}
	if e != api.OK || e != wantE {
		return
	}
	if !cover.Is(l) {
		t.Errorf("P12.2: what Get(%q, of %d bytes, %d) answers is not valid: %v", shortText(s), len(s), at, shortList(l))
	}
	again, e := cover.Put(l)
	if e != api.OK || len(again) > len(s)-at {
		t.Errorf("P12.5: what Get(%q, of %d bytes, %d) answers is written as %q, of %d bytes, %d", shortText(s), len(s), at, shortText(again), len(again), e)
	}
	if m, e := cover.Get(again, 0); !slices.Equal(m, l) || e != api.OK {
		t.Errorf("P12.5: what Get(%q, of %d bytes, %d) answers is %v, of %d, %d, when it is written and read again", shortText(s), len(s), at, shortList(m), len(m), e)
	}
}

// checkModel holds Get against the model, and tells its error.
func checkModel(t *testing.T, s string, at int) api.Errno {
	t.Helper()
	want, e := modelGet(s, at)
	checkGet(t, s, at, want, e)
	return e
}

// checkPut holds Put against what is asked, and reads again what is written, by itself and within other bytes.
func checkPut(t *testing.T, l []int, want string, wantE api.Errno) {
	t.Helper()
	before := slices.Clone(l)
	s, e := cover.Put(l)
	if s != want || e != wantE {
		t.Errorf("P12.3: Put(%v, of %d) is %q, of %d bytes, %d, not %q, of %d, %d", shortList(l), len(l), shortText(s), len(s), e, shortText(want), len(want), wantE)
	}
	if !slices.Equal(l, before) {
		t.Errorf("R2: Put changed the glyphs from %v to %v", shortList(before), shortList(l))
	}
	if e != api.OK {
		return
	}
	for at, full := range []string{s, "\xff" + s + "\x01", "\x00\x02" + s + "\x00\x01\x00"} {
		if m, e := cover.Get(full, at); !slices.Equal(m, l) || e != api.OK {
			t.Errorf("P12.5: what Put(%v, of %d) writes is read at %d as %v, of %d, %d", shortList(l), len(l), at, shortList(m), len(m), e)
		}
	}
}

func checkFind(t *testing.T, l []int, g, want int, wantOk bool) {
	t.Helper()
	before := slices.Clone(l)
	at, ok := cover.Find(l, g)
	if at != want || ok != wantOk {
		t.Errorf("P12.4: Find(%v, of %d, %d) is %d, %v, not %d, %v", shortList(l), len(l), g, at, ok, want, wantOk)
	}
	if !slices.Equal(l, before) {
		t.Errorf("R2: Find changed the glyphs from %v to %v", shortList(before), shortList(l))
	}
}

// wrong are lists that are not valid.
func wrong() [][]int {
	l := [][]int{
		{-1}, {65535}, {5, 5}, {0, 0}, {65534, 65534}, {6, 5}, {7, 5}, {65534, 0},
		{-1, 0}, {0, -1}, {65534, 65535}, {65535, 65536}, {0, 65535}, {-2, -1}, {-5, 5},
		{1, 2, 2}, {1, 1, 2}, {1, 3, 2}, {3, 1, 2}, {2, 3, 1}, {1, 2, 3, 3}, {5, 6, 7, 8, 8}, {5, 6, 7, 8, 7}, {5, 6, 7, 8, 0}, {4, 5, 6, 7, 4, 8},
		upTo(-1, 65534), upTo(0, 65535), append(upTo(0, 65534), 65534), append(upTo(0, 65534), 0), append([]int{0}, upTo(0, 65534)...),
		make([]int, 70000), every(40000, 0, 2), every(10, 9, -1), upTo(0, 70000),
	}
	for _, n := range far {
		l = append(l, []int{n}, []int{n, 5}, []int{5, n}, []int{4, n, 6}, []int{4, 5, n}, []int{n, n}, []int{n, 0, 65534})
	}
	return l
}

func TestIsOfListsThatAreNotValid(t *testing.T) {
	for _, l := range wrong() {
		checkIs(t, l, false)
		checkPut(t, l, "", api.ErrArg)
		for _, g := range append([]int{-1, 0, 1, 2, 3, 4, 5, 6, 7, 8, 9, 100, 65534, 65535}, far...) {
			checkFind(t, l, g, 0, false)
		}
	}
}

func TestIsOfValidLists(t *testing.T) {
	for _, l := range [][]int{
		nil, {}, {0}, {1}, {65534}, {0, 1}, {0, 65534}, {65533, 65534}, {5, 7}, {5, 6, 7, 8}, {1, 2, 4, 300, 301, 65534}, upTo(0, 65534), upTo(1, 65534), upTo(0, 65533), every(32768, 0, 2), every(32767, 1, 2), every(21845, 0, 3),
	} {
		checkIs(t, l, true)
	}
}

func TestIsOfEachGlyph(t *testing.T) {
	for g := -300; g < 66000; g++ {
		checkIs(t, []int{g}, g >= 0 && g <= 65534)
		checkIs(t, []int{g, 65534}, g >= 0 && g <= 65533)
		checkIs(t, []int{0, g}, g >= 1 && g <= 65534)
		checkIs(t, []int{1000, g, 1002}, g == 1001)
	}
	for _, g := range far {
		checkIs(t, []int{g}, false)
	}
}

func TestIsOfAllShortListsOfSomeGlyphs(t *testing.T) {
	some := []int{math.MinInt, -65536, -1, 0, 1, 2, 65533, 65534, 65535, 65536, math.MaxInt}
	for _, a := range some {
		for _, b := range some {
			checkIs(t, []int{a, b}, isRight([]int{a, b}))
			for _, c := range some {
				checkIs(t, []int{a, b, c}, isRight([]int{a, b, c}))
			}
		}
	}
}

func TestIsOfOneWrongGlyphAtEachPlace(t *testing.T) {
	right := every(40, 1000, 7)
	checkIs(t, right, true)
	for i, g := range right {
		for _, n := range append([]int{-1, 65535, g - 7, g - 8, g + 7, g + 8, g - 1, g + 1, g - 6, g + 6, 0, 65534}, far...) {
			l := slices.Clone(right)
			l[i] = n
			checkIs(t, l, isRight(l))
			first, last := i == 0, i == len(right)-1
			if isRight(l) != ((n > g-7 || first && n >= 0) && (n < g+7 || last && n <= 65534)) {
				t.Errorf("P12.1: the model has %v valid, or not, against the words", l)
			}
		}
	}
}

func TestGetReadsBothFormats(t *testing.T) {
	for _, k := range []struct {
		s    string
		want []int
	}{
		{"\x00\x01\x00\x00", nil},
		{"\x00\x02\x00\x00", nil},
		{"\x00\x01\x00\x02\x00\x05\x00\x07", []int{5, 7}},
		{"\x00\x02\x00\x01\x00\x05\x00\x08\x00\x00", []int{5, 6, 7, 8}},
		{"\x00\x01\x00\x03\x01\x02\x80\x00\xff\xfe", []int{258, 32768, 65534}},
		{"\x00\x02\x00\x02\x01\xfe\x02\x01\x00\x00\xff\xfe\xff\xfe\x00\x04", []int{510, 511, 512, 513, 65534}},
		{"\x00\x01\x00\x01\x00\x00", []int{0}},
		{"\x00\x02\x00\x01\x00\x00\x00\x00\x00\x00", []int{0}},
	} {
		checkGet(t, k.s, 0, k.want, api.OK)
		checkGet(t, "abc"+k.s+"\xff", 3, k.want, api.OK)
	}
}

func TestGetAtEachOffset(t *testing.T) {
	for _, table := range []string{listTable(), listTable(0), listTable(5, 7), listTable(258, 32768, 65534), rangeTable(), rangeTable(row{5, 8, 0}), rangeTable(row{0, 0, 0}, row{2, 4, 1}, row{65534, 65534, 4})} {
		for _, gap := range []string{"", "\x00", "\x00\x01", "\x00\x02\x00\x01\x00", "\xff\xff\xff\xff\xff\xff"} {
			s := gap + table + gap
			for at := -20; at < len(s)+20; at++ {
				e := checkModel(t, s, at)
				if at < 0 && e != api.ErrArg || at >= 0 && at > len(s)-4 && e != api.ErrMore || at == len(gap) && e != api.OK {
					t.Errorf("P12.2: the model's Get at %d of %d bytes is %d", at, len(s), e)
				}
			}
			for _, at := range far {
				want := api.ErrMore
				if at < 0 {
					want = api.ErrArg
				}
				checkGet(t, s, at, nil, want)
			}
		}
	}
	// A table within a table, and one at the end of a long text.
	nested := words(1, 6, 1, 2, 5, 7, 8, 9)
	checkGet(t, nested, 4, []int{5, 7}, api.OK)
	checkGet(t, strings.Repeat("\xff", 100001)+nested, 100005, []int{5, 7}, api.OK)
	checkGet(t, strings.Repeat("\xff", 100001)+nested, 100001, []int{1, 2, 5, 7, 8, 9}, api.OK)
	checkGet(t, strings.Repeat("\xff", 100001)+nested, 100000, nil, api.ErrForm)
}

func TestGetOfFewBytes(t *testing.T) {
	for _, b := range []string{"\x00", "\xff", "\x01", "\x02"} {
		for n := range 4 {
			for before := range 6 {
				s := strings.Repeat(b, before+n)
				checkGet(t, s, before, nil, api.ErrMore)
				checkGet(t, s, -1, nil, api.ErrArg)
				checkGet(t, s, math.MinInt, nil, api.ErrArg)
				checkGet(t, s, math.MaxInt, nil, api.ErrMore)
			}
		}
		// With 4 bytes the format is asked.
		checkGet(t, strings.Repeat(b, 4), 0, nil, api.ErrForm)
	}
	for before := range 6 {
		gap := strings.Repeat("\x00", before)
		for _, head := range []string{words(1, 0), words(2, 0)} {
			for n := range 4 {
				checkGet(t, gap+head[:n], before, nil, api.ErrMore)
			}
			checkGet(t, gap+head, before, nil, api.OK)
		}
		for _, head := range []string{words(1, 1), words(2, 1), words(1, 65535), words(2, 65535)} {
			checkGet(t, gap+head, before, nil, api.ErrMore)
		}
		for _, head := range []string{words(0, 0), words(3, 0), words(65535, 0)} {
			checkGet(t, gap+head, before, nil, api.ErrForm)
			checkGet(t, gap+head[:3], before, nil, api.ErrMore)
		}
	}
}

func TestGetOfTextsOfEachLength(t *testing.T) {
	for _, table := range []string{listTable(), listTable(5), listTable(5, 7), listTable(0, 1, 65534), rangeTable(), rangeTable(row{5, 8, 0}), rangeTable(row{5, 8, 0}, row{9, 9, 4}), rangeTable(row{0, 0, 0}, row{2, 4, 1}, row{65534, 65534, 4})} {
		for _, tail := range []string{"\x00", "\xff"} {
			full := table + strings.Repeat(tail, 20)
			for size := range len(full) + 1 {
				e := checkModel(t, full[:size], 0)
				if e != api.OK && size >= len(table) || e != api.ErrMore && size < len(table) {
					t.Errorf("P12.2: %d of %d bytes are %d", size, len(table), e)
				}
				checkModel(t, "\x02"+full[:size], 1)
			}
		}
	}
}

func TestGetOfEveryFormat(t *testing.T) {
	// By both readings the text is whole.
	s := words(0, 1, 5, 5, 0)
	for f := range 65536 {
		want, e := []int(nil), api.ErrForm
		if f == 1 || f == 2 {
			want, e = []int{5}, api.OK
		}
		checkGet(t, with(s, 0, words(f)), 0, want, e)
		// A wrong format is told ahead of missing bytes, but behind those of the format and the count.
		if e == api.OK {
			want, e = nil, api.ErrMore
		}
		checkGet(t, words(f, 1, 5)[:5], 0, want, e)
		checkGet(t, words(f, 65535), 0, want, e)
		checkGet(t, words(f, 1)[:3], 0, nil, api.ErrMore)
	}
}

func TestGetOfEachCount(t *testing.T) {
	list, ranges := listTable(2, 3, 5, 9), rangeTable(row{2, 3, 0}, row{5, 5, 2}, row{9, 12, 3})
	for _, n := range append(upTo(0, 400), 511, 512, 1024, 2047, 2048, 4096, 16384, 21844, 21845, 21846, 32767, 32768, 32769, 43690, 65533, 65534, 65535) {
		want := api.OK
		if n > 4 {
			want = api.ErrMore
		}
		if e := checkModel(t, with(list, 2, words(n)), 0); e != want {
			t.Errorf("P12.2: %d glyphs, of which 4 are there, are %d", n, e)
		}
		want = api.OK
		if n > 3 {
			want = api.ErrMore
		}
		if e := checkModel(t, with(ranges, 2, words(n)), 0); e != want {
			t.Errorf("P12.2: %d ranges, of which 3 are there, are %d", n, e)
		}
	}
}

// singles are n ranges of a glyph each, from 0 on.
func singles(n int) []row {
	l := make([]row, n)
	for i := range l {
		l[i] = row{i, i, i}
	}
	return l
}

func TestGetOfAsManyAsThereMayBe(t *testing.T) {
	all := upTo(0, 65534)
	for _, table := range []string{listTable(all...), rangeTable(singles(65535)...)} {
		checkGet(t, table[:len(table)-1], 0, nil, api.ErrMore)
		checkGet(t, table, 0, all, api.OK)
		checkGet(t, table+"\xff", 0, all, api.OK)
		checkGet(t, "\x00"+table[:len(table)-1], 1, nil, api.ErrMore)
		checkGet(t, "\x00"+table, 1, all, api.OK)
		checkGet(t, "\x00"+table+"\xff", 1, all, api.OK)
		checkGet(t, table, 1, nil, api.ErrForm)
		// What is wrong is told behind what is missing.
		bad := with(table, 4, words(65535))
		checkGet(t, bad[:len(bad)-1], 0, nil, api.ErrMore)
		checkGet(t, bad, 0, nil, api.ErrForm)
		bad = with(table, len(table)-2, words(65535))
		checkGet(t, bad[:len(bad)-1], 0, nil, api.ErrMore)
		checkGet(t, bad, 0, nil, api.ErrForm)
		checkGet(t, bad+"\xff", 0, nil, api.ErrForm)
	}
	// The counts 1 and 0, with a byte less, none and one more.
	for _, table := range []string{listTable(5), rangeTable(row{5, 5, 0})} {
		checkGet(t, table[:len(table)-1], 0, nil, api.ErrMore)
		checkGet(t, table, 0, []int{5}, api.OK)
		checkGet(t, table+"\xff", 0, []int{5}, api.OK)
	}
	for _, table := range []string{listTable(), rangeTable()} {
		checkGet(t, table[:len(table)-1], 0, nil, api.ErrMore)
		checkGet(t, table, 0, nil, api.OK)
		checkGet(t, table+"\xff", 0, nil, api.OK)
	}
}

func TestGetOfEachListedGlyph(t *testing.T) {
	for g := range 65536 {
		for _, k := range []struct {
			l  []int
			ok bool
		}{
			{[]int{g}, g <= 65534},
			{[]int{g, 300}, g < 300},
			{[]int{300, g}, g > 300 && g <= 65534},
			{[]int{300, g, 33000}, g > 300 && g < 33000},
			{[]int{g, g}, false},
			{[]int{g, g, 65534}, false},
		} {
			want, e := []int(nil), api.ErrForm
			if k.ok {
				want, e = k.l, api.OK
			}
			checkGet(t, listTable(k.l...), 0, want, e)
		}
	}
}

func TestGetOfListsThatAreNotValid(t *testing.T) {
	for _, l := range [][]int{{5, 5}, {6, 5}, {65534, 0}, {0, 0}, {65534, 65534}, {65535}, {65534, 65535}, {65535, 65535}, {65535, 0}, {1, 2, 3, 3}, {1, 2, 3, 2}, {1, 1, 2, 3}, {2, 1, 3, 4}, {1, 3, 2, 4}} {
		checkGet(t, listTable(l...), 0, nil, api.ErrForm)
		checkGet(t, "\x00"+listTable(l...)+"\x00", 1, nil, api.ErrForm)
		// Missing glyphs are told ahead of wrong ones.
		s := listTable(l...)
		checkGet(t, s[:len(s)-1], 0, nil, api.ErrMore)
		checkGet(t, with(s, 2, words(len(l)+1)), 0, nil, api.ErrMore)
	}
}

func TestGetOfRanges(t *testing.T) {
	for _, k := range []struct {
		name string
		l    []row
		want []int
	}{
		{"of one glyph", []row{{5, 5, 0}}, []int{5}},
		{"of the first glyph", []row{{0, 0, 0}}, []int{0}},
		{"of the last glyph", []row{{65534, 65534, 0}}, []int{65534}},
		{"of one glyph each", []row{{5, 5, 0}, {7, 7, 1}, {9, 9, 2}}, []int{5, 7, 9}},
		{"that are neighbours", []row{{5, 6, 0}, {7, 7, 2}, {8, 9, 3}}, []int{5, 6, 7, 8, 9}},
		{"of all glyphs", []row{{0, 65534, 0}}, upTo(0, 65534)},
		{"of all glyphs", []row{{0, 65533, 0}, {65534, 65534, 65534}}, upTo(0, 65534)},
		{"of all glyphs", []row{{0, 0, 0}, {1, 65534, 1}}, upTo(0, 65534)},
		{"of all glyphs but the first one", []row{{1, 65534, 0}}, upTo(1, 65534)},
		{"whose last glyph is less by one", []row{{6, 5, 0}}, nil},
		{"whose last glyph is less by one", []row{{5, 6, 0}, {9, 8, 2}}, nil},
		{"whose last glyph is less by one, and between others", []row{{5, 6, 0}, {8, 7, 2}, {9, 9, 2}}, nil},
		{"whose last glyph is less by one, at the beginning", []row{{1, 0, 0}}, nil},
		{"whose last glyph is less by one, at the end", []row{{65535, 65534, 0}}, nil},
		{"whose last glyph is less", []row{{65534, 0, 0}}, nil},
		{"whose last glyph is less", []row{{8, 5, 0}}, nil},
		{"that touch", []row{{5, 8, 0}, {8, 9, 4}}, nil},
		{"that touch", []row{{5, 8, 0}, {8, 8, 4}}, nil},
		{"that are the same", []row{{5, 8, 0}, {5, 8, 4}}, nil},
		{"that are the same", []row{{5, 5, 0}, {5, 5, 1}}, nil},
		{"that overlap", []row{{5, 8, 0}, {7, 12, 4}}, nil},
		{"that overlap", []row{{5, 8, 0}, {4, 12, 4}}, nil},
		{"within another one", []row{{5, 20, 0}, {7, 9, 16}}, nil},
		{"that fall", []row{{9, 12, 0}, {5, 8, 4}}, nil},
		{"that fall", []row{{5, 6, 0}, {20, 21, 2}, {9, 10, 4}}, nil},
		{"whose first integer before is 1", []row{{5, 8, 1}}, nil},
		{"whose integer before is one too small", []row{{5, 8, 0}, {10, 12, 3}}, nil},
		{"whose integer before is one too great", []row{{5, 8, 0}, {10, 12, 5}}, nil},
		{"whose integers before are the lengths", []row{{5, 8, 0}, {10, 12, 4}, {14, 15, 3}}, nil},
		{"whose integers before are those of the range itself", []row{{5, 8, 4}, {10, 12, 7}}, nil},
		{"whose integers before are 0", []row{{5, 8, 0}, {10, 12, 0}}, nil},
		{"up to 65535", []row{{0, 65535, 0}}, nil},
		{"up to 65535", []row{{5, 65535, 0}}, nil},
		{"of 65535", []row{{65535, 65535, 0}}, nil},
		{"up to 65535", []row{{0, 65534, 0}, {65535, 65535, 65535}}, nil},
		{"up to 65535", []row{{5, 8, 0}, {10, 65535, 4}}, nil},
		{"with a sum of 65535", []row{{0, 65534, 0}, {0, 0, 65535}}, nil},
		{"with a sum of 65535", []row{{0, 65534, 0}, {65534, 65534, 65535}}, nil},
		{"with a sum of 65536", []row{{0, 65535, 0}, {0, 0, 0}}, nil},
		{"with a sum of 65536", []row{{0, 65535, 0}, {65534, 65534, 65535}}, nil},
		{"with a sum of 65536", []row{{0, 65534, 0}, {0, 0, 65535}, {0, 0, 0}}, nil},
		{"with a sum of 131070", []row{{0, 65534, 0}, {0, 65534, 65535}, {5, 5, 65534}}, nil},
		{"with a sum of 131072", []row{{0, 65535, 0}, {0, 65535, 0}}, nil},
	} {
		e := api.OK
		if k.want == nil {
			e = api.ErrForm
		}
		s := rangeTable(k.l...)
		if got, gotE := modelGet(s, 0); !slices.Equal(got, k.want) || gotE != e {
			t.Errorf("P12.2: the model reads ranges %s, %v, as %v, %d", k.name, k.l, shortList(got), gotE)
		}
		checkGet(t, s, 0, k.want, e)
		checkGet(t, "\x00"+s+"\x00", 1, k.want, e)
		// Missing ranges are told ahead of wrong ones.
		checkGet(t, s[:len(s)-1], 0, nil, api.ErrMore)
		checkGet(t, with(s, 2, words(len(k.l)+1)), 0, nil, api.ErrMore)
	}
}

func TestGetOfEachNumberOfARange(t *testing.T) {
	for n := range 65536 {
		for _, k := range []struct {
			l  []row
			ok bool
		}{
			{[]row{{n, n, 0}}, n <= 65534},
			{[]row{{n, 300, 0}}, n <= 300},
			{[]row{{300, min(n, 600), 0}}, n >= 300},
			{[]row{{65200, n, 0}}, n >= 65200 && n <= 65534},
			{[]row{{300, 305, n}}, n == 0},
			{[]row{{300, 305, 0}, {310, 311, n}}, n == 6},
			{[]row{{300, 305, 0}, {min(n, 400), 401, 6}}, n > 305},
			{[]row{{300, 305, 0}, {n, n, 6}}, n > 305 && n <= 65534},
			{[]row{{64900, max(n, 65000), 0}, {65530, 65531, max(n, 65000) - 64899}}, n < 65530},
			{[]row{{0, 0, 0}, {2, 3, 1}, {5, 5, n}}, n == 3},
		} {
			s := rangeTable(k.l...)
			want := api.ErrForm
			if k.ok {
				want = api.OK
			}
			l, e := cover.Get(s, 0)
			model, modelE := modelGet(s, 0)
			if e != want || modelE != want || !slices.Equal(l, model) {
				t.Errorf("P12.2: Get of the ranges %v is %v, of %d, %d, not %d", k.l, shortList(l), len(l), e, want)
			}
		}
	}
}

func TestGetOfRangesThatHaveTooManyGlyphs(t *testing.T) {
	// Each range has all glyphs: a list of them all would be far longer than a list of glyphs can be.
	for _, x := range []row{{0, 65535, 0}, {0, 65534, 0}, {0, 65535, 65535}, {1, 65534, 0}} {
		checkGet(t, rangeTable(slices.Repeat([]row{x}, 1000)...), 0, nil, api.ErrForm)
	}
	// Their integers before are right, as far as a field can hold them.
	for _, last := range []int{65534, 65535, 32767, 20000} {
		l := make([]row, 1000)
		for i := range l {
			l[i] = row{0, last, i * (last + 1) % 65536}
		}
		checkGet(t, rangeTable(l...), 0, nil, api.ErrForm)
	}
}

func TestGetOfEachByte(t *testing.T) {
	for _, table := range []string{listTable(5, 7, 300), listTable(0, 1, 2, 65534), rangeTable(row{5, 8, 0}, row{258, 300, 4}), rangeTable(row{0, 0, 0}, row{2, 4, 1}, row{65534, 65534, 4})} {
		for i := range len(table) {
			for b := range 256 {
				s := with(table, i, string([]byte{byte(b)}))
				checkModel(t, s, 0)
			}
		}
	}
}

// someTable is of both formats, and of others; mostly of what is valid, with a number or two changed, or some bytes too few or too many.
func someTable(next func(int) int) string {
	l := someGlyphs(next, next(8), []int{0, 0, 100, 65300, 65500, next(65536)}[next(6)])
	l = slices.DeleteFunc(l, func(g int) bool { return g > 65534 })
	s := listTable(l...)
	if next(2) == 0 {
		s = rangeTable(divided(next, rows(l))...)
	}
	for range next(3) {
		if next(2) == 0 {
			at := 2 * next(len(s)/2)
			n := int(s[at])<<8 + int(s[at+1])
			s = with(s, at, words([]int{0, 1, 2, n - 1, n + 1, 65534, 65535, next(65536)}[next(8)]))
		}
	}
	switch next(8) {
	case 0:
		return s[:next(len(s)+1)]
	case 1:
		return s + strings.Repeat("\xff", next(9))
	}
	return s
}

// divided are ranges that are not all as long as they could be.
func divided(next func(int) int, l []row) []row {
	var all []row
	for _, x := range l {
		for x.last > x.first && next(3) == 0 {
			cut := x.first + next(x.last-x.first)
			all = append(all, row{x.first, cut, x.before})
			x.before += cut + 1 - x.first
			x.first = cut + 1
		}
		all = append(all, x)
	}
	return all
}

func TestGetOfTablesOfAllKinds(t *testing.T) {
	next := source(1)
	told := map[api.Errno]int{}
	for range 40000 {
		s := someTable(next)
		gap := strings.Repeat("\x01", []int{0, 0, 1, next(5)}[next(4)])
		told[checkModel(t, gap+s, len(gap))]++
	}
	if told[api.OK] < 5000 || told[api.ErrForm] < 5000 || told[api.ErrMore] < 1000 || len(told) != 3 {
		t.Errorf("the tables do not tell all results often: %v", told)
	}
}

func TestGetOfRandomWords(t *testing.T) {
	next := source(2)
	for range 10000 {
		l := []int{[]int{0, 1, 1, 2, 2, 3}[next(6)], next(4)}
		for range next(12) {
			l = append(l, []int{next(6), next(20), 65530 + next(6), next(65536)}[next(4)])
		}
		s := words(l...)
		for at := range min(len(s), 7) {
			checkModel(t, s, at)
		}
	}
}

func TestPutWritesTheShorterFormat(t *testing.T) {
	for _, k := range []struct {
		l    []int
		want string
	}{
		{nil, words(1, 0)},
		{[]int{}, words(1, 0)},
		{[]int{0}, words(1, 1, 0)},
		{[]int{65534}, words(1, 1, 65534)},
		{[]int{258}, "\x00\x01\x00\x01\x01\x02"},
		{[]int{5, 6}, words(1, 2, 5, 6)},
		{[]int{5, 7}, "\x00\x01\x00\x02\x00\x05\x00\x07"},
		{[]int{0, 65534}, words(1, 2, 0, 65534)},
		// One range: with two glyphs it is longer by 2 bytes, with three as long, with four shorter.
		{[]int{5, 6, 7}, words(1, 3, 5, 6, 7)},
		{[]int{0, 1, 2}, words(1, 3, 0, 1, 2)},
		{[]int{65532, 65533, 65534}, words(1, 3, 65532, 65533, 65534)},
		{[]int{5, 6, 7, 8}, "\x00\x02\x00\x01\x00\x05\x00\x08\x00\x00"},
		{[]int{0, 1, 2, 3}, words(2, 1, 0, 3, 0)},
		{[]int{65531, 65532, 65533, 65534}, words(2, 1, 65531, 65534, 0)},
		{[]int{5, 6, 7, 9}, words(1, 4, 5, 6, 7, 9)},
		// Two ranges.
		{[]int{1, 2, 3, 4, 9}, words(1, 5, 1, 2, 3, 4, 9)},
		{[]int{1, 2, 3, 4, 5, 9}, words(1, 6, 1, 2, 3, 4, 5, 9)},
		{[]int{1, 2, 3, 7, 8, 9}, words(1, 6, 1, 2, 3, 7, 8, 9)},
		{[]int{1, 2, 3, 4, 5, 6, 9}, words(2, 2, 1, 6, 0, 9, 9, 6)},
		{[]int{1, 4, 5, 6, 7, 8, 9}, words(2, 2, 1, 1, 0, 4, 9, 1)},
		{[]int{1, 2, 3, 5, 6, 7, 8}, words(2, 2, 1, 3, 0, 5, 8, 3)},
		// Three ranges of nine glyphs and of ten.
		{[]int{0, 2, 3, 4, 5, 6, 7, 8, 65534}, words(1, 9, 0, 2, 3, 4, 5, 6, 7, 8, 65534)},
		{[]int{0, 2, 3, 4, 5, 6, 7, 8, 9, 65534}, words(2, 3, 0, 0, 0, 2, 9, 1, 65534, 65534, 9)},
		{upTo(0, 65534), words(2, 1, 0, 65534, 0)},
		{upTo(1, 65534), words(2, 1, 1, 65534, 0)},
		{upTo(0, 65533), words(2, 1, 0, 65533, 0)},
		{append(upTo(0, 40000), upTo(40002, 65534)...), words(2, 2, 0, 40000, 0, 40002, 65534, 40001)},
		{append(upTo(0, 65532), 65534), words(2, 2, 0, 65532, 0, 65534, 65534, 65533)},
	} {
		checkPut(t, k.l, k.want, api.OK)
		if s, e := modelPut(k.l); s != k.want || e != api.OK {
			t.Errorf("P12.3: the model writes %v as %q, %d", shortList(k.l), shortText(s), e)
		}
	}
}

// runs are n ranges of some glyphs each, with one more glyph in the last one if more is 1, and one less if it is -1.
func runs(n, glyphs, more int) []int {
	var l []int
	for i := range n {
		first := i * (glyphs + 2)
		last := first + glyphs - 1
		if i == n-1 {
			last += more
		}
		l = append(l, upTo(first, last)...)
	}
	return l
}

func TestPutWhereBothFormatsAreAboutAsLong(t *testing.T) {
	for n := 1; n < 60; n++ {
		for more := -2; more < 4; more++ {
			l := runs(n, 3, more)
			s, e := modelPut(l)
			checkPut(t, l, s, e)
			// At the same length format 1 is taken.
			if format := s[1]; e != api.OK || (format == 2) != (more > 0) {
				t.Errorf("P12.3: %d ranges of %d glyphs are written in the format %d, %d", n, len(l), format, e)
			}
		}
		// The one format is shorter by as much as a range, and then the other one is.
		for _, l := range [][]int{runs(n, 3, 3), append(runs(n, 3, 0), 60000, 60002, 60004)} {
			s, e := modelPut(l)
			checkPut(t, l, s, e)
		}
	}
	// Many glyphs, each by itself, and in twos, threes and fours.
	for glyphs := 1; glyphs < 5; glyphs++ {
		for _, n := range []int{100, 5461, 10922} {
			l := runs(n, glyphs, 0)
			s, e := modelPut(l)
			checkPut(t, l, s, e)
			if format := s[1]; e != api.OK || (format == 2) != (glyphs > 3) {
				t.Errorf("P12.3: %d ranges of %d glyphs are written in the format %d, %d", n, len(l), format, e)
			}
		}
	}
	for _, l := range [][]int{every(32768, 0, 2), every(32767, 1, 2), every(21845, 0, 3)} {
		checkPut(t, l, listTable(l...), api.OK)
	}
}

func TestAllListsOfFewGlyphs(t *testing.T) {
	for _, glyphs := range [][]int{upTo(0, 13), upTo(65524, 65534), {0, 1, 2, 3, 4, 255, 256, 257, 65532, 65533, 65534}} {
		for bits := range 1 << len(glyphs) {
			l := of(glyphs, bits)
			s, e := modelPut(l)
			checkPut(t, l, s, e)
			checkIs(t, l, true)
			if e != api.OK || len(s) > len(listTable(l...)) || len(s) > len(rangeTable(rows(l)...)) {
				t.Errorf("P12.3: the model writes %v as %q, %d", l, s, e)
			}
			// All other tables of the list are read too.
			checkGet(t, listTable(l...), 0, l, api.OK)
			checkGet(t, rangeTable(rows(l)...), 0, l, api.OK)
			for _, g := range glyphs {
				at, ok := modelFind(l, g)
				checkFind(t, l, g, at, ok)
			}
		}
	}
}

func TestPutOfListsOfAllKinds(t *testing.T) {
	next := source(3)
	told := map[api.Errno]int{}
	formats := map[byte]int{}
	for range 5000 {
		l := someGlyphs(next, next(20), []int{0, 0, 100, 65000, 65300, 65500, next(65536)}[next(7)])
		if len(l) > 0 && next(8) == 0 {
			l[next(len(l))] += []int{-1, 1, -65536, 65536, next(9), 1 << 32}[next(6)]
		}
		s, e := modelPut(l)
		checkPut(t, l, s, e)
		checkIs(t, l, e == api.OK)
		told[e]++
		if e == api.OK {
			formats[s[1]]++
		}
		for range 8 {
			g := next(65600) - 30
			if len(l) > 0 && next(4) > 0 {
				g = l[next(len(l))] + []int{0, 0, -1, 1}[next(4)]
			}
			at, ok := modelFind(l, g)
			checkFind(t, l, g, at, ok)
		}
	}
	if told[api.OK] < 2000 || told[api.ErrArg] < 500 || formats[1] < 500 || formats[2] < 500 {
		t.Errorf("the lists do not tell all results often: %v, %v", told, formats)
	}
}

func TestWhatIsReadIsWrittenWithAtMostAsManyBytes(t *testing.T) {
	next := source(4)
	for range 3000 {
		l := someGlyphs(next, 1+next(12), next(60000))
		long := rangeTable(divided(next, rows(l))...)
		for _, s := range []string{listTable(l...), rangeTable(rows(l)...), long, rangeTable(rows(l)...) + "\x00"} {
			m, e := cover.Get(s, 0)
			if e != api.OK || !slices.Equal(m, l) {
				t.Fatalf("P12.2: Get(%q, 0) is %v, %d, not %v", s, m, e, l)
			}
			again, e := cover.Put(m)
			want, _ := modelPut(l)
			if e != api.OK || again != want || len(again) > len(s) {
				t.Errorf("P12.5: %v, read from %d bytes, is written as %q, of %d, %d", m, len(s), again, len(again), e)
			}
		}
	}
}

func TestFindInShortLists(t *testing.T) {
	for _, k := range []struct {
		l       []int
		g, want int
		ok      bool
	}{
		{nil, 0, 0, false}, {nil, 5, 0, false}, {[]int{}, 0, 0, false}, {nil, -1, 0, false}, {nil, 65535, 0, false},
		{[]int{5}, 5, 0, true}, {[]int{5}, 4, 0, false}, {[]int{5}, 6, 0, false}, {[]int{5}, 0, 0, false}, {[]int{5}, 65534, 0, false},
		{[]int{0}, 0, 0, true}, {[]int{0}, -1, 0, false}, {[]int{0}, 1, 0, false},
		{[]int{65534}, 65534, 0, true}, {[]int{65534}, 65533, 0, false}, {[]int{65534}, 65535, 0, false},
		{[]int{2, 3, 5, 9}, 2, 0, true}, {[]int{2, 3, 5, 9}, 3, 1, true}, {[]int{2, 3, 5, 9}, 5, 2, true}, {[]int{2, 3, 5, 9}, 9, 3, true},
		{[]int{2, 3, 5, 9}, 1, 0, false}, {[]int{2, 3, 5, 9}, 4, 0, false}, {[]int{2, 3, 5, 9}, 6, 0, false}, {[]int{2, 3, 5, 9}, 8, 0, false}, {[]int{2, 3, 5, 9}, 10, 0, false},
		{[]int{0, 1, 2, 3, 65534}, 65534, 4, true}, {[]int{0, 1, 2, 3, 65534}, 65535, 0, false}, {[]int{0, 1, 2, 3, 65534}, -1, 0, false},
		// The list is not valid, though it has the glyph.
		{[]int{3, 2}, 3, 0, false}, {[]int{3, 2}, 2, 0, false}, {[]int{5, 5}, 5, 0, false}, {[]int{65535}, 65535, 0, false}, {[]int{-1}, -1, 0, false}, {[]int{-1, 5}, 5, 0, false}, {[]int{5, 65535}, 5, 0, false}, {[]int{1, 2, 3, 4, 5, 5}, 2, 0, false}, {[]int{1, 1, 2, 3, 4, 5}, 5, 0, false},
	} {
		checkFind(t, k.l, k.g, k.want, k.ok)
	}
	for _, l := range [][]int{nil, {5}, {0, 5, 65534}, upTo(0, 20), upTo(65520, 65534), every(30, 5, 5)} {
		for _, g := range far {
			checkFind(t, l, g, 0, false)
		}
	}
}

func TestFindEachGlyphAtItsIndex(t *testing.T) {
	for _, l := range [][]int{upTo(0, 300), upTo(65200, 65534), every(300, 3, 4), every(256, 0, 256), every(2, 0, 65534), someGlyphs(source(5), 60, 1000)} {
		first, last := l[0], l[len(l)-1]
		for i, g := range l {
			checkFind(t, l, g, i, true)
			for _, n := range []int{g - 1, g + 1, g - 65536, g + 65536, -g - 1} {
				at, ok := modelFind(l, n)
				checkFind(t, l, n, at, ok)
			}
		}
		for _, n := range []int{first - 1, last + 1, first - 100, last + 100} {
			checkFind(t, l, n, 0, false)
		}
	}
	// All lengths of lists, so that each way through the halves is gone.
	for n := range 130 {
		l := every(n, 1, 2)
		for i := range n {
			checkFind(t, l, 2*i, 0, false)
			checkFind(t, l, 2*i+1, i, true)
		}
		checkFind(t, l, 2*n, 0, false)
		checkFind(t, l, 2*n+1, 0, false)
	}
	all := upTo(0, 65534)
	for g := -2000; g < 67000; g += 500 {
		at, ok := modelFind(all, g)
		checkFind(t, all, g, at, ok)
	}
	for _, g := range []int{0, 1, 32766, 32767, 32768, 65533, 65534} {
		checkFind(t, all, g, g, true)
	}
}

func TestAnswersShareNoMemory(t *testing.T) {
	for _, s := range []string{listTable(5, 7, 9), rangeTable(row{5, 8, 0}, row{10, 12, 4})} {
		first, _ := cover.Get(s, 0)
		second, _ := cover.Get(s, 0)
		kept := slices.Clone(second)
		for i := range first {
			first[i] = -1
		}
		if again, _ := cover.Get(s, 0); !slices.Equal(second, kept) || !slices.Equal(again, kept) {
			t.Errorf("R2, R3: a change of one answer of Get changed another: %v, %v", second, again)
		}
	}
	// What stands behind a list in its memory stays as it is.
	for _, glyphs := range [][]int{{5, 7, 9, 11}, {5, 6, 7, 8}} {
		memory := append(slices.Clone(glyphs), 100, 101, 102, 103)
		if _, e := cover.Put(memory[:4]); e != api.OK || !slices.Equal(memory, append(slices.Clone(glyphs), 100, 101, 102, 103)) {
			t.Errorf("R2: Put changed what stands behind its glyphs: %v, %d", memory, e)
		}
	}
}
