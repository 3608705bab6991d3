package info_test

import (
	"math"
	"slices"
	"strings"
	"testing"

	"vinculum/api"
	"vinculum/cover"
	"vinculum/info"
)

// far are numbers that no glyph, no value and no offset reaches, many of which have 16 low bits that one could have.
var far = []int{math.MinInt, math.MinInt + 1, math.MinInt + 5, math.MinInt32, -1<<32 + 5, -131072, -65537, -65536, -65535, -65531, 65536, 65537, 65541, 131071, 131072, math.MaxInt32, 1 << 32, 1<<32 + 5, 1 << 62, 1<<62 + 5, math.MaxInt - 4, math.MaxInt - 1, math.MaxInt}

// words are numbers' bytes, two for each, one behind the other.
func words(l ...int) string {
	var b strings.Builder
	for _, n := range l {
		b.WriteByte(byte(n >> 8))
		b.WriteByte(byte(n))
	}
	return b.String()
}

// with is a text whose bytes from a place on are others.
func with(s string, at int, other string) string { return s[:at] + other + s[at+len(other):] }

// source answers a function that tells numbers from 0 to n-1, the same ones for the same seed.
func source(seed uint64) func(n int) int {
	return func(n int) int {
		seed = seed*6364136223846793005 + 1442695040888963407
		return int(seed>>33) % n
	}
}

func shortList(l []api.Pair) []api.Pair { return l[:min(len(l), 12)] }

func shortText(s string) string { return s[:min(len(s), 80)] }

// pairs are made of glyphs and values by turns.
func pairs(l ...int) []api.Pair {
	var all []api.Pair
	for i := 0; i < len(l); i += 2 {
		all = append(all, api.Pair{Glyph: l[i], Value: l[i+1]})
	}
	return all
}

// every are n pairs whose glyphs rise by a step, with values that differ, of either sign.
func every(n, first, step int) []api.Pair {
	l := make([]api.Pair, n)
	for i := range l {
		l[i] = api.Pair{Glyph: first + step*i, Value: (i*257+33)%65536 - 32768}
	}
	return l
}

// changed is a list with another pair at an index.
func changed(l []api.Pair, i int, p api.Pair) []api.Pair {
	l = slices.Clone(l)
	l[i] = p
	return l
}

// table is of values whose count is right, each with two ignored bytes, ahead of a coverage table, with its offset.
func table(values []int, ignored string, coverage string) string {
	return tableAt(4+4*len(values), values, ignored) + coverage
}

// tableAt is of values whose count is right, with any offset.
func tableAt(offset int, values []int, ignored string) string {
	s := words(offset, len(values))
	for _, v := range values {
		s += words(v) + ignored
	}
	return s
}

// isRight is by the words of the chapters 12 and 14, each pair on its own.
func isRight(l []api.Pair) bool {
	for i, p := range l {
		if p.Glyph < 0 || p.Glyph > 65534 || p.Value < -32768 || p.Value > 32767 || i > 0 && l[i-1].Glyph >= p.Glyph {
			return false
		}
	}
	return true
}

// modelGet reads a table by the words of P14.2, byte by byte, each value at its own place.
func modelGet(s string, at int) ([]api.Pair, api.Errno) {
	if at < 0 {
		return nil, api.ErrArg
	}
	if at > len(s) || len(s)-at < 4 {
		return nil, api.ErrMore
	}
	two := func(i int) int { return 256*int(s[at+i]) + int(s[at+i+1]) }
	offset, n := two(0), two(2)
	if len(s)-at < 4+4*n {
		return nil, api.ErrMore
	}
	covered, e := cover.Get(s, at+offset)
	if e != api.OK {
		return nil, e
	}
	if len(covered) != n {
		return nil, api.ErrForm
	}
	var l []api.Pair
	for i, g := range covered {
		v := two(4 + 4*i)
		if v >= 32768 {
			v -= 65536
		}
		l = append(l, api.Pair{Glyph: g, Value: v})
	}
	return l, api.OK
}

// modelPut writes into noughts, each value at its own place.
func modelPut(l []api.Pair) (string, api.Errno) {
	if !isRight(l) {
		return "", api.ErrArg
	}
	if len(l) > 16382 {
		return "", api.ErrLong
	}
	b := make([]byte, 4+4*len(l))
	put := func(at, n int) { b[at], b[at+1] = byte((n+65536)/256), byte((n+65536)%256) }
	put(0, 4+4*len(l))
	put(2, len(l))
	var covered []int
	for i, p := range l {
		put(4+4*i, p.Value)
		covered = append(covered, p.Glyph)
	}
	coverage, e := cover.Put(covered)
	return string(b) + coverage, e
}

// modelFind goes through the whole list.
func modelFind(l []api.Pair, g int) (int, bool) {
	at := slices.IndexFunc(l, func(p api.Pair) bool { return p.Glyph == g })
	if at < 0 || !isRight(l) {
		return 0, false
	}
	return l[at].Value, true
}

func checkIs(t *testing.T, l []api.Pair, want bool) {
	t.Helper()
	if is := info.Is(l); is != want {
		t.Errorf("P14.1: Is(%v, of %d) is %v", shortList(l), len(l), is)
	}
}

func checkFind(t *testing.T, l []api.Pair, g int) {
	t.Helper()
	want, wantOk := modelFind(l, g)
	if v, ok := info.Find(l, g); v != want || ok != wantOk {
		t.Errorf("P14.1: Find(%v, of %d, %d) is %d, %v, not %d, %v", shortList(l), len(l), g, v, ok, want, wantOk)
	}
}

// checkGet holds Get against the model, and tells its error.
func checkGet(t *testing.T, s string, at int) api.Errno {
	t.Helper()
	want, wantE := modelGet(s, at)
	l, e := info.Get(s, at)
	if !slices.Equal(l, want) || e != wantE {
		t.Errorf("P14.2: Get(%q, of %d bytes, %d) is %v, of %d, %d, not %v, of %d, %d", shortText(s), len(s), at, shortList(l), len(l), e, shortList(want), len(want), wantE)
	}
	if e == api.OK && !info.Is(l) {
		t.Errorf("P14.4: what Get(%q, of %d bytes, %d) answers is not valid: %v", shortText(s), len(s), at, shortList(l))
	}
	return e
}

// wantGet is checkGet where the error is known too.
func wantGet(t *testing.T, s string, at int, want api.Errno) {
	t.Helper()
	if e := checkGet(t, s, at); e != want {
		t.Errorf("P14.2: Get(%q, of %d bytes, %d) is %d, not %d", shortText(s), len(s), at, e, want)
	}
}

// checkPut holds Put against the model, and gets again what is put, by itself and within other bytes.
func checkPut(t *testing.T, l []api.Pair) api.Errno {
	t.Helper()
	before := slices.Clone(l)
	want, wantE := modelPut(l)
	s, e := info.Put(l)
	if s != want || e != wantE {
		t.Errorf("P14.3: Put(%v, of %d) is %q, of %d bytes, %d, not %q, of %d, %d", shortList(l), len(l), shortText(s), len(s), e, shortText(want), len(want), wantE)
	}
	if !slices.Equal(l, before) {
		t.Errorf("R2: Put changed the pairs from %v to %v", shortList(before), shortList(l))
	}
	if e != api.OK {
		return e
	}
	for at, full := range []string{s, "\xff" + s + "\x01", "\x00\x02" + s + "\x00\x01\x00"} {
		if m, e := info.Get(full, at); !slices.Equal(m, l) || e != api.OK {
			t.Errorf("P14.4: what Put(%v, of %d) writes is got at %d as %v, of %d, %d", shortList(l), len(l), at, shortList(m), len(m), e)
		}
	}
	return e
}

// wantPut is checkPut where the error is known too.
func wantPut(t *testing.T, l []api.Pair, want api.Errno) {
	t.Helper()
	if e := checkPut(t, l); e != want {
		t.Errorf("P14.3: Put(%v, of %d) is %d, not %d", shortList(l), len(l), e, want)
	}
}

// valid are lists that are.
func valid() [][]api.Pair {
	return [][]api.Pair{
		nil, {}, {{}}, pairs(0, -32768), pairs(65534, 32767), pairs(0, 0, 65534, 0), pairs(65533, -1, 65534, 1),
		pairs(5, 7, 6, 7, 7, 7), pairs(5, -1, 6, 300, 7, 32767, 8, -32768), pairs(1, 9, 3, 8, 300, 7, 301, 6, 65534, 5),
		every(40, 1000, 7), every(100, 0, 1), every(300, 65235, 1), every(32768, 0, 2), every(65535, 0, 1),
	}
}

// wrong are lists that are not valid.
func wrong() [][]api.Pair {
	l := [][]api.Pair{
		pairs(-1, 0), pairs(65535, 0), pairs(5, 0, 5, 0), pairs(5, 1, 5, 2), pairs(0, 0, 0, 0), pairs(65534, 1, 65534, 1), pairs(6, 1, 5, 2), pairs(7, 0, 5, 0), pairs(65534, 0, 0, 0),
		pairs(-1, 0, 0, 0), pairs(0, 0, -1, 0), pairs(65534, 0, 65535, 0), pairs(0, 0, 65535, 0), pairs(-2, 0, -1, 0),
		pairs(5, 32768), pairs(5, -32769), pairs(0, 40000), pairs(0, 65535), pairs(65535, 65535), pairs(-1, 32768),
		pairs(5, 0, 6, 32768), pairs(5, -32769, 6, 0), pairs(1, 0, 2, 0, 2, 0), pairs(1, 0, 1, 0, 2, 0), pairs(1, 0, 3, 0, 2, 0), pairs(2, 0, 3, 0, 1, 0),
		every(65536, 0, 1), every(65536, -1, 1), every(40000, 0, 2), every(10, 9, -1), make([]api.Pair, 2), make([]api.Pair, 16383), make([]api.Pair, 70000),
	}
	for _, n := range far {
		l = append(l, pairs(n, 0), pairs(n, 0, 5, 0), pairs(5, 0, n, 0), pairs(4, 0, n, 0, 6, 0), pairs(n, n), pairs(5, n), pairs(5, n, 6, 0), pairs(5, 0, 6, n), pairs(4, 0, 5, n, 6, 0), pairs(n, 0, n, 0))
	}
	return l
}

// rightButFor is a valid list but for one pair, at its first, a middle and its last place.
func rightButFor(p api.Pair) [][]api.Pair {
	right := every(21, 1000, 7)
	return [][]api.Pair{changed(right, 0, p), changed(right, 10, p), changed(right, 20, p)}
}

func TestIsOfValidLists(t *testing.T) {
	for _, l := range valid() {
		checkIs(t, l, true)
	}
}

func TestListsThatAreNotValid(t *testing.T) {
	for _, l := range wrong() {
		checkIs(t, l, false)
		wantPut(t, l, api.ErrArg)
		for _, g := range append([]int{-2, -1, 0, 1, 2, 3, 4, 5, 6, 7, 8, 9, 100, 65533, 65534, 65535}, far...) {
			if v, ok := info.Find(l, g); v != 0 || ok {
				t.Errorf("P14.1: Find(%v, of %d, %d) is %d, %v", shortList(l), len(l), g, v, ok)
			}
		}
	}
}

func TestIsOfEachGlyph(t *testing.T) {
	for g := -300; g < 66000; g++ {
		checkIs(t, pairs(g, 7), g >= 0 && g <= 65534)
		checkIs(t, pairs(g, 7, 65534, 7), g >= 0 && g <= 65533)
		checkIs(t, pairs(0, 7, g, 7), g >= 1 && g <= 65534)
		checkIs(t, pairs(1000, 7, g, 7, 1002, 7), g == 1001)
	}
}

func TestIsOfEachValue(t *testing.T) {
	for v := -70000; v < 70000; v++ {
		is := v >= -32768 && v <= 32767
		checkIs(t, pairs(5, v), is)
		checkIs(t, pairs(5, v, 6, 0), is)
		checkIs(t, pairs(5, 0, 6, v), is)
		checkIs(t, pairs(5, 0, 6, v, 7, 0), is)
	}
}

func TestOneWrongGlyphAtEachPlace(t *testing.T) {
	right := every(21, 1000, 7)
	checkIs(t, right, true)
	for i, p := range right {
		for _, g := range append([]int{-1, 0, 65534, 65535, p.Glyph - 8, p.Glyph - 7, p.Glyph - 6, p.Glyph, p.Glyph + 6, p.Glyph + 7, p.Glyph + 8}, far...) {
			l := changed(right, i, api.Pair{Glyph: g, Value: p.Value})
			first, last := i == 0, i == len(right)-1
			is := (first && g >= 0 || g > p.Glyph-7) && (last && g <= 65534 || g < p.Glyph+7)
			checkIs(t, l, is)
			if is != (checkPut(t, l) == api.OK) {
				t.Errorf("P14.3: Put with the glyph %d at %d", g, i)
			}
			for _, x := range []int{1000, 1070, 1140, g} {
				checkFind(t, l, x)
			}
		}
	}
}

func TestOneWrongValueAtEachPlace(t *testing.T) {
	right := every(21, 1000, 7)
	for i, p := range right {
		for _, v := range append([]int{-32769, -32768, -32767, -1, 0, 1, 32767, 32768, 32769, 65535}, far...) {
			l := changed(right, i, api.Pair{Glyph: p.Glyph, Value: v})
			is := v >= -32768 && v <= 32767
			checkIs(t, l, is)
			if is != (checkPut(t, l) == api.OK) {
				t.Errorf("P14.3: Put with the value %d at %d", v, i)
			}
			for _, x := range []int{1000, 1070, 1140, p.Glyph} {
				checkFind(t, l, x)
			}
			if v, ok := info.Find(l, 1000); ok != is || !is && v != 0 {
				t.Errorf("P14.1: Find with a value %d at %d: %d, %v", l[i].Value, i, v, ok)
			}
		}
	}
}

func TestIsOfRandomLists(t *testing.T) {
	random := source(141)
	for range 20000 {
		l := make([]api.Pair, random(6))
		for i := range l {
			l[i] = api.Pair{Glyph: random(8) + 4*i - 1, Value: random(66000) - 33000}
		}
		checkIs(t, l, isRight(l))
		checkFind(t, l, random(30)-2)
		checkPut(t, l)
	}
}

func TestFindOfEachGlyph(t *testing.T) {
	for _, l := range valid() {
		if len(l) > 1000 {
			continue
		}
		for i, p := range l {
			if v, ok := info.Find(l, p.Glyph); v != l[i].Value || !ok {
				t.Errorf("P14.4: Find(%v, of %d, %d) is %d, %v, not %d", shortList(l), len(l), p.Glyph, v, ok, p.Value)
			}
			checkFind(t, l, p.Glyph-1)
			checkFind(t, l, p.Glyph+1)
		}
		for _, g := range append([]int{-65536, -2, -1, 0, 1, 65533, 65534, 65535}, far...) {
			checkFind(t, l, g)
		}
	}
}

func TestFindInGreatLists(t *testing.T) {
	for _, l := range [][]api.Pair{every(65535, 0, 1), every(32768, 0, 2), every(32767, 1, 2)} {
		for _, g := range []int{math.MinInt, -1, 0, 1, 2, 3, 32766, 32767, 32768, 40000, 40001, 65531, 65532, 65533, 65534, 65535, 65536, math.MaxInt} {
			checkFind(t, l, g)
		}
	}
}

func TestFindOfMissingGlyphs(t *testing.T) {
	for _, g := range append([]int{-1, 0, 5, 65534, 65535}, far...) {
		for _, l := range [][]api.Pair{nil, {}} {
			if v, ok := info.Find(l, g); v != 0 || ok {
				t.Errorf("P14.1: Find of %d in no pairs is %d, %v", g, v, ok)
			}
		}
	}
	l := pairs(10, 1, 20, 2, 30, 3)
	for g := -100; g < 200; g++ {
		v, ok := info.Find(l, g)
		if want := g / 10; g == 10 || g == 20 || g == 30 {
			if v != want || !ok {
				t.Errorf("P14.1: Find of %d is %d, %v", g, v, ok)
			}
		} else if v != 0 || ok {
			t.Errorf("P14.1: Find of the missing %d is %d, %v", g, v, ok)
		}
	}
}

// A value of 0 is found, though it is what a missing glyph answers too.
func TestFindOfNought(t *testing.T) {
	l := pairs(0, 0, 5, 0, 9, 1)
	for _, g := range []int{0, 5} {
		if v, ok := info.Find(l, g); v != 0 || !ok {
			t.Errorf("P14.1: Find of %d is %d, %v", g, v, ok)
		}
	}
	if v, ok := info.Find(l, 4); v != 0 || ok {
		t.Errorf("P14.1: Find of 4 is %d, %v", v, ok)
	}
}

func TestGetOfKnownTexts(t *testing.T) {
	for _, k := range []struct {
		s    string
		want []api.Pair
	}{
		{"\x00\x04\x00\x00\x00\x01\x00\x00", nil},
		{"\x00\x04\x00\x00\x00\x02\x00\x00", nil},
		{"\x00\x08\x00\x01\x00\x07\x00\x00\x00\x01\x00\x01\x00\x09", pairs(9, 7)},
		{"\x00\x08\x00\x01\xff\xfe\xff\xff\x00\x02\x00\x01\x01\x02\x01\x02\x00\x00", pairs(258, -2)},
		{"\x00\x0c\x00\x02\x80\x00\x12\x34\x7f\xff\x56\x78\x00\x01\x00\x02\x00\x00\xff\xfe", pairs(0, -32768, 65534, 32767)},
		{"\x00\x10\x00\x03\x00\x80\x00\x00\x01\x00\x00\x00\xff\x7f\x00\x00\x00\x02\x00\x01\x00\x05\x00\x07\x00\x00", pairs(5, 128, 6, 256, 7, -129)},
	} {
		for at, s := range []string{k.s, "\x00" + k.s + "\xff", "\xff\xff" + k.s + "\x00\x01\x02"} {
			if l, e := info.Get(s, at); !slices.Equal(l, k.want) || e != api.OK {
				t.Errorf("P14.2: Get(%q, %d) is %v, %d, not %v", s, at, l, e, k.want)
			}
			checkGet(t, s, at)
		}
	}
}

func TestGetOfEachValue(t *testing.T) {
	for v := range 65536 {
		s := words(8, 1, v, 0xa5c3, 1, 1, 9)
		if l, e := info.Get(s, 0); len(l) != 1 || l[0] != (api.Pair{Glyph: 9, Value: int(int16(v))}) || e != api.OK {
			t.Fatalf("P14.2: the bytes %q are %v, %d", s[4:6], l, e)
		}
	}
}

func TestGetLeavesOutIgnoredBytes(t *testing.T) {
	l := every(5, 100, 3)
	s, _ := modelPut(l)
	for i := range l {
		for at := range 2 {
			for c := range 256 {
				other := with(s, 4+4*i+2+at, string([]byte{byte(c)}))
				if m, e := info.Get(other, 0); !slices.Equal(m, l) || e != api.OK {
					t.Errorf("P14.2: with %d in an ignored byte of the value %d: %v, %d", c, i, m, e)
				}
			}
		}
	}
}

// texts are tables that can be read.
func texts() []string {
	return []string{
		words(4, 0, 1, 0), words(4, 0, 2, 0),
		table([]int{7}, "\x00\x00", words(1, 1, 9)), table([]int{-7}, "\xff\xff", words(2, 1, 9, 9, 0)),
		table([]int{1, -2, 3}, "\x01\x02", words(1, 3, 4, 6, 65534)), table([]int{1, -2, 3, -4}, "\x00\x01", words(2, 1, 5, 8, 0)), table([]int{1, -2, 3, -4}, "\x00\x01", words(2, 2, 5, 5, 0, 7, 9, 1)),
	}
}

func TestGetAtEachOffset(t *testing.T) {
	for _, text := range texts() {
		for _, gap := range []string{"", "\x00", "\x00\x01", "\x00\x04\x00\x00\x00", "\xff\xff\xff\xff\xff\xff"} {
			s := gap + text + gap
			for at := -20; at < len(s)+20; at++ {
				e := checkGet(t, s, at)
				if at < 0 && e != api.ErrArg || at >= 0 && at > len(s)-4 && e != api.ErrMore || at == len(gap) && e != api.OK {
					t.Errorf("P14.2: Get at %d of %q is %d", at, s, e)
				}
			}
			for _, at := range append([]int{math.MaxInt - len(s), math.MaxInt - 3, math.MinInt + len(s), math.MaxInt - 65535, math.MaxInt - 65536}, far...) {
				want := api.ErrMore
				if at < 0 {
					want = api.ErrArg
				}
				wantGet(t, s, at, want)
			}
		}
	}
	long := strings.Repeat("\xff", 100001)
	for _, text := range texts() {
		wantGet(t, long+text, len(long), api.OK)
		wantGet(t, long+text+long, len(long), api.OK)
	}
}

func TestGetOfFewBytes(t *testing.T) {
	for _, b := range []string{"\x00", "\xff", "\x01", "\x04"} {
		for n := range 4 {
			for before := range 6 {
				s := strings.Repeat(b, before+n)
				wantGet(t, s, before, api.ErrMore)
				wantGet(t, s, -1, api.ErrArg)
				wantGet(t, s, math.MinInt, api.ErrArg)
				wantGet(t, s, math.MaxInt, api.ErrMore)
			}
		}
	}
	// With 4 bytes and no values the coverage table is asked: here its format is nought.
	wantGet(t, "\x00\x00\x00\x00", 0, api.ErrForm)
	wantGet(t, "\x00\x04\x00\x00", 0, api.ErrMore)
	wantGet(t, "\x00\x00\x00\x01", 0, api.ErrMore)
}

func TestGetOfTextsOfEachLength(t *testing.T) {
	for _, text := range texts() {
		for _, tail := range []string{"\x00", "\xff"} {
			full := text + strings.Repeat(tail, 20)
			for size := range len(full) + 1 {
				want := api.ErrMore
				if size >= len(text) {
					want = api.OK
				}
				wantGet(t, full[:size], 0, want)
				checkGet(t, "\x00\x04"+full[:size], 2)
			}
		}
	}
}

// The values must be there to their last ignored byte, wherever the coverage table stands.
func TestGetOfTextsThatEndAtTheValues(t *testing.T) {
	// The coverage table is the values: the format and the count are the first one, the glyphs the second one, each with what is ignored.
	within := words(4, 2, 1, 2, 10, 11)
	// It begins within them: with one glyph too few, and with all.
	for _, s := range []string{within, words(8, 3, 7, 0, 1, 2, 10, 11), words(8, 4, 7, 0, 2, 1, 5, 8, 0, 9)} {
		n := int(s[3])
		full := s + strings.Repeat("\x00\x0c", 10)
		end := 4 + 4*n
		for size := range len(full) + 1 {
			e := checkGet(t, full[:size], 0)
			if (size < end) != (e == api.ErrMore) {
				t.Errorf("P14.2: %d values, and %d bytes of %q, are %d", n, size, full, e)
			}
		}
	}
	wantGet(t, within, 0, api.OK)
	wantGet(t, within[:11], 0, api.ErrMore)
	wantGet(t, within+"\x00", 0, api.OK)
	if l, e := info.Get(within, 0); !slices.Equal(l, pairs(10, 1, 11, 10)) || e != api.OK {
		t.Errorf("P14.2: Get of a table whose coverage table is its values is %v, %d", l, e)
	}
}

// The coverage table of the longest tables can't stand behind the values, so it stands within them.
func TestGetOfGreatCounts(t *testing.T) {
	for _, n := range []int{1, 2, 16382, 16383, 16384, 32767, 32768, 65534, 65535} {
		offset := min(4+4*n, 65535)
		s := words(offset, n) + strings.Repeat("\x81\x23\xff\xff", n) + strings.Repeat("\x00", 10)
		s = with(s, offset, words(2, 1, 0, n-1, 0))
		if l, e := info.Get(s, 0); len(l) != n || e != api.OK || l[n-1].Glyph != n-1 || l[0].Value != 0x8123-65536 {
			t.Errorf("P14.2: Get of %d values is %v, of %d, %d", n, shortList(l), len(l), e)
		}
		wantGet(t, s, 0, api.OK)
		wantGet(t, "\x00"+s+"\x00", 1, api.OK)
		wantGet(t, s[:4+4*n-1], 0, api.ErrMore)
		// One glyph more, and one less.
		wantGet(t, with(s, offset+6, words(n)), 0, api.ErrForm)
		if n > 1 {
			wantGet(t, with(s, offset+6, words(n-2)), 0, api.ErrForm)
		}
	}
	// So many values, and too few bytes.
	for _, n := range []int{1, 2, 255, 256, 16384, 65535} {
		for _, size := range []int{0, 1, 4*n - 4, 4*n - 1} {
			wantGet(t, words(0, n)+strings.Repeat("\x00", size), 0, api.ErrMore)
		}
		wantGet(t, words(0, n)+strings.Repeat("\x00", 4*n), 0, api.ErrForm)
	}
}

func TestGetOfEachCount(t *testing.T) {
	s := words(40, 3) + strings.Repeat("\x00\x05\x00\x00", 9) + words(1, 3, 7, 8, 9)
	for n := range 65536 {
		want := api.ErrForm
		switch {
		case n == 3:
			want = api.OK
		case 4+4*n > len(s):
			want = api.ErrMore
		}
		wantGet(t, with(s, 2, words(n)), 0, want)
	}
}

func TestGetOfEachOffsetOfTheCoverageTable(t *testing.T) {
	for _, s := range []string{
		words(0, 2, 7, 0, 8, 0, 1, 2, 5, 9, 2, 1, 4, 5, 0), words(0, 1, 1, 1, 6, 0), words(0, 0, 0, 1, 0, 0, 2, 0, 0),
		words(0, 3, 65535, 1, 3, 10, 20, 30, 1, 3, 2, 1, 3),
	} {
		for offset := range len(s) + 30 {
			other := with(s, 0, words(offset))
			e := checkGet(t, other, 0)
			if offset > len(s)-4 && e != api.ErrMore {
				t.Errorf("P14.2: an offset %d in %d bytes is %d", offset, len(s), e)
			}
			checkGet(t, "\x00\x01\x00"+other+"\x00\x00\x00", 3)
		}
		for _, offset := range []int{255, 256, 257, 32767, 32768, 32769, 65534, 65535} {
			wantGet(t, with(s, 0, words(offset)), 0, api.ErrMore)
		}
	}
}

// The offset is unsigned, and counts from the table's first byte.
func TestGetOfFarCoverageTables(t *testing.T) {
	for _, offset := range []int{8, 9, 10, 255, 256, 32767, 32768, 40000, 65531, 65534, 65535} {
		for _, before := range []int{0, 1, 3, 1000} {
			s := strings.Repeat("\x01", before) + words(offset, 1, 300, 0) + strings.Repeat("\x00", 70000)
			s = with(s, before+offset, words(1, 1, 77))
			if l, e := info.Get(s, before); !slices.Equal(l, pairs(77, 300)) || e != api.OK {
				t.Errorf("P14.2: an offset %d behind %d bytes: %v, %d", offset, before, l, e)
			}
			// The text ends ahead of the offset, or within the coverage table, or just behind it.
			for size := max(offset-1, 8); size < offset+6; size++ {
				wantGet(t, s[:before+size], before, api.ErrMore)
			}
			wantGet(t, s[:before+offset+6], before, api.OK)
		}
	}
}

// A coverage table that begins within the head.
func TestGetOfCoverageTableInHead(t *testing.T) {
	// At 0 the format is the offset, nought, which is none.
	for n := range 30 {
		wantGet(t, words(0, n)+strings.Repeat("\x00\x01", 60), 0, api.ErrForm)
	}
	// At 1 the format's bytes are the offset's low one and the count's high one: 256, which is none.
	for n := range 30 {
		wantGet(t, words(1, n)+strings.Repeat("\x00\x01", 60), 0, api.ErrForm)
	}
	// At 2 the format is the count: one value, and one glyph, which is the first ignored integer.
	if l, e := info.Get(words(2, 1, 1, 9), 0); !slices.Equal(l, pairs(9, 1)) || e != api.OK {
		t.Errorf("P14.2: Get of a table whose coverage table is at 2 is %v, %d", l, e)
	}
	wantGet(t, words(2, 1, 1, 9), 0, api.OK)
	// There it may be a range too: its numbers are an ignored integer, the second value, and what is ignored behind it.
	if l, e := info.Get(words(2, 2, 1, 5, 6, 0), 0); !slices.Equal(l, pairs(5, 1, 6, 6)) || e != api.OK {
		t.Errorf("P14.2: Get of a table whose range is at 2 is %v, %d", l, e)
	}
	wantGet(t, words(2, 2, 1, 5, 6, 1), 0, api.ErrForm)
}

func TestGetOfErrorsOfTheCoverageTable(t *testing.T) {
	three := []int{7, -8, 9}
	for _, k := range []struct {
		coverage string
		want     api.Errno
	}{
		{words(1, 3, 4, 5, 6), api.OK}, {words(1, 3, 0, 1, 65534), api.OK}, {words(2, 1, 4, 6, 0), api.OK}, {words(2, 2, 4, 4, 0, 6, 7, 1), api.OK}, {words(2, 3, 4, 4, 0, 5, 5, 1, 6, 6, 2), api.OK}, {words(2, 1, 65532, 65534, 0), api.OK},
		{"", api.ErrMore}, {words(1), api.ErrMore}, {words(1, 3)[:3], api.ErrMore}, {words(9, 3)[:3], api.ErrMore}, {words(1, 3), api.ErrMore}, {words(1, 3, 4, 5), api.ErrMore}, {words(1, 3, 4, 5, 6)[:9], api.ErrMore}, {words(1, 4, 4, 5, 6), api.ErrMore}, {words(1, 65535, 4, 5, 6), api.ErrMore},
		{words(2, 1), api.ErrMore}, {words(2, 1, 4, 6), api.ErrMore}, {words(2, 1, 4, 6, 0)[:9], api.ErrMore}, {words(2, 2, 4, 6, 0), api.ErrMore}, {words(2, 65535, 4, 6, 0), api.ErrMore},
		{words(0, 3, 4, 5, 6), api.ErrForm}, {words(3, 3, 4, 5, 6), api.ErrForm}, {words(256, 3, 4, 5, 6), api.ErrForm}, {words(65535, 3, 4, 5, 6), api.ErrForm}, {words(0, 65535), api.ErrForm},
		{words(1, 3, 4, 4, 6), api.ErrForm}, {words(1, 3, 4, 5, 5), api.ErrForm}, {words(1, 3, 6, 5, 4), api.ErrForm}, {words(1, 3, 4, 5, 65535), api.ErrForm}, {words(1, 3, 65535, 5, 6), api.ErrForm},
		{words(2, 1, 6, 4, 0), api.ErrForm}, {words(2, 1, 4, 6, 1), api.ErrForm}, {words(2, 1, 65533, 65535, 0), api.ErrForm}, {words(2, 2, 4, 4, 0, 6, 7, 2), api.ErrForm}, {words(2, 2, 4, 4, 0, 4, 5, 1), api.ErrForm}, {words(2, 2, 6, 7, 0, 4, 4, 2), api.ErrForm},
		{words(1, 2, 4, 5), api.ErrForm}, {words(1, 4, 4, 5, 6, 7), api.ErrForm}, {words(1, 0), api.ErrForm}, {words(2, 0), api.ErrForm}, {words(2, 1, 4, 5, 0), api.ErrForm}, {words(2, 1, 4, 7, 0), api.ErrForm}, {words(2, 1, 0, 65534, 0), api.ErrForm},
	} {
		for _, ahead := range []string{"", "\x00", "abc"} {
			for _, between := range []string{"", "\x00", "\x00\x01\x00\x03\x00\x04\x00\x05\x00\x06"} {
				s := ahead + tableAt(16+len(between), three, "\x12\x34") + between + k.coverage
				wantGet(t, s, len(ahead), k.want)
				if e := k.want; e == api.OK {
					l, _ := info.Get(s, len(ahead))
					if len(l) != 3 || l[0].Value != 7 || l[1].Value != -8 || l[2].Value != 9 {
						t.Errorf("P14.2: Get(%q, %d) is %v", s, len(ahead), l)
					}
				}
			}
		}
	}
}

func TestGetOfOneGlyphMoreOrLess(t *testing.T) {
	for n := range 40 {
		var values, glyphs []int
		for i := range n {
			values = append(values, i*100-50)
		}
		for g := range n + 3 {
			for _, coverage := range []string{words(1, g) + words(glyphs...), words(2, 1, 0, g-1, 0)} {
				if coverage[1] == 2 && g == 0 {
					coverage = words(2, 0)
				}
				want := api.ErrForm
				if g == n {
					want = api.OK
				}
				wantGet(t, table(values, "\xff\x00", coverage), 0, want)
			}
			glyphs = append(glyphs, g)
		}
	}
}

func TestGetErrorsInOrder(t *testing.T) {
	// A negative offset, though the text is none.
	for _, s := range append(texts(), "", "\x00", words(8, 1), words(9, 9, 9, 9)) {
		for _, at := range []int{-1, -4, -65536, math.MinInt} {
			wantGet(t, s, at, api.ErrArg)
		}
	}
	// Values are missing, and the coverage table is wrong, or of another count: ErrMore.
	wantGet(t, words(4, 3, 3, 0, 5, 5), 0, api.ErrMore)
	wantGet(t, words(4, 3, 1, 1, 9, 9), 0, api.ErrMore)
	wantGet(t, words(4, 3, 1, 2, 9, 9), 0, api.ErrMore)
	wantGet(t, words(0, 65535, 1, 1), 0, api.ErrMore)
	// The coverage table is missing, and its count could not be the values': ErrMore.
	wantGet(t, words(8, 1, 7, 0, 1, 65535), 0, api.ErrMore)
	wantGet(t, words(8, 1, 7, 0, 2, 2, 5, 8, 0), 0, api.ErrMore)
	wantGet(t, words(8, 1, 7, 0, 1), 0, api.ErrMore)
	// The coverage table is wrong, and there are no values.
	wantGet(t, words(4, 0, 3, 0), 0, api.ErrForm)
	wantGet(t, words(4, 0, 1, 2, 5), 0, api.ErrMore)
	// The format is asked ahead of the glyphs' bytes.
	wantGet(t, words(8, 1, 7, 0, 3, 9), 0, api.ErrForm)
}

func TestGetOfRandomTexts(t *testing.T) {
	random := source(142)
	small := []int{0, 1, 2, 3, 4, 5, 6, 7, 8, 12, 16, 20, 65535}
	right := 0
	for range 200000 {
		n := random(4)
		l := []int{4 + 4*n + 2*[]int{0, 0, 0, 0, 1, -1}[random(6)], n}
		for range random(12) + 2*n {
			l = append(l, small[random(len(small))])
		}
		l = append(l, 0, 0)
		if at := l[0] / 2; at >= 2 && at < len(l)-1 && random(4) > 0 {
			l[at], l[at+1] = 1+random(2), random(3)
		}
		if checkGet(t, words(l...)[:2*len(l)-random(5)], 0) == api.OK {
			right++
		}
	}
	if right < 2000 {
		t.Errorf("the test's texts are wrong: %d can be read", right)
	}
}

func TestPutOfKnownLists(t *testing.T) {
	for _, k := range []struct {
		l    []api.Pair
		want string
	}{
		{nil, "\x00\x04\x00\x00\x00\x01\x00\x00"},
		{[]api.Pair{}, "\x00\x04\x00\x00\x00\x01\x00\x00"},
		{pairs(9, 7), "\x00\x08\x00\x01\x00\x07\x00\x00\x00\x01\x00\x01\x00\x09"},
		{pairs(65534, -1), "\x00\x08\x00\x01\xff\xff\x00\x00\x00\x01\x00\x01\xff\xfe"},
		{pairs(0, -32768, 65534, 32767), "\x00\x0c\x00\x02\x80\x00\x00\x00\x7f\xff\x00\x00\x00\x01\x00\x02\x00\x00\xff\xfe"},
		{pairs(5, -1, 6, 300, 7, 32767, 8, -32768), words(20, 4, -1, 0, 300, 0, 32767, 0, -32768, 0, 2, 1, 5, 8, 0)},
		{pairs(5, 1, 6, 2, 7, 3), words(16, 3, 1, 0, 2, 0, 3, 0, 1, 3, 5, 6, 7)},
	} {
		if s, e := info.Put(k.l); s != k.want || e != api.OK {
			t.Errorf("P14.3: Put(%v) is %q, %d, not %q", k.l, s, e, k.want)
		}
		wantPut(t, k.l, api.OK)
	}
}

func TestPutOfEachNumberOfPairs(t *testing.T) {
	for n := range 300 {
		wantPut(t, every(n, 10, 1), api.OK)
		wantPut(t, every(n, 10, 3), api.OK)
	}
}

func TestPutOfLongLists(t *testing.T) {
	for _, n := range []int{16380, 16381, 16382, 16383, 16384, 20000, 32767, 65535} {
		want := api.OK
		if n > 16382 {
			want = api.ErrLong
		}
		wantPut(t, every(n, 0, 1), want)
		wantPut(t, every(n, 65535-n, 1), want)
		if 3*n < 65535 {
			wantPut(t, every(n, 0, 3), want)
		}
		// A list that is too long and not valid is told as not valid, wherever it is not.
		for _, i := range []int{0, 1, n / 2, 16381, 16382, n - 1} {
			if i < n {
				wantPut(t, changed(every(n, 0, 1), i, api.Pair{Glyph: i, Value: 32768}), api.ErrArg)
				wantPut(t, changed(every(n, 0, 1), i, api.Pair{Glyph: -1}), api.ErrArg)
				wantPut(t, changed(every(n, 0, 1), i, api.Pair{Glyph: 65535}), api.ErrArg)
			}
		}
	}
	wantPut(t, every(65536, 0, 1), api.ErrArg)
	s, e := info.Put(every(16382, 0, 1))
	if len(s) != 65532+10 || s[:4] != words(65532, 16382) || e != api.OK {
		t.Errorf("P14.3: Put of 16382 pairs is %q, of %d bytes, %d", s[:4], len(s), e)
	}
}

func TestPutOfEachValue(t *testing.T) {
	for v := -32768; v <= 32767; v++ {
		if s, e := info.Put(pairs(9, v)); s != words(8, 1, v, 0, 1, 1, 9) || e != api.OK {
			t.Fatalf("P14.3: Put of the value %d is %q, %d", v, s, e)
		}
	}
}

func TestPutWritesNoughtsInIgnoredBytes(t *testing.T) {
	for _, l := range [][]api.Pair{pairs(5, -1, 6, -1, 7, -1, 8, -1), every(500, 7, 2), every(16382, 0, 2)} {
		s, e := info.Put(l)
		if e != api.OK {
			t.Fatalf("P14.3: Put is %d", e)
		}
		for i := range l {
			if s[4+4*i+2] != 0 || s[4+4*i+3] != 0 {
				t.Fatalf("P14.3: the ignored bytes of the value %d are %q", i, s[4+4*i+2:4+4*i+4])
			}
		}
	}
}

// randomPairs are valid, with and without gaps.
func randomPairs(random func(n int) int) []api.Pair {
	var l []api.Pair
	g := random(300)
	for range random(60) {
		l = append(l, api.Pair{Glyph: g, Value: random(65536) - 32768})
		g += 1 + []int{0, 0, 0, 1, random(2000)}[random(5)]
		if g > 65534 {
			break
		}
	}
	return l
}

func TestPutAndGet(t *testing.T) {
	random := source(143)
	for range 5000 {
		l := randomPairs(random)
		s, e := info.Put(l)
		ahead, behind := strings.Repeat("\x00\x04", random(5)), strings.Repeat("\xff", random(5))
		m, f := info.Get(ahead+s+behind, len(ahead))
		if e != api.OK || f != api.OK || !slices.Equal(l, m) {
			t.Errorf("P14.4: put and got: %v, %d, %d, not %v", shortList(m), e, f, shortList(l))
		}
		checkPut(t, l)
	}
	for _, l := range valid() {
		if len(l) <= 16382 {
			wantPut(t, l, api.OK)
		}
	}
}

// What is got is valid, and each of its glyphs has the value at its own place.
func TestFindInWhatIsGot(t *testing.T) {
	for _, s := range append(texts(), table([]int{5, -5, 0, 32767, -32768}, "\x77\x88", words(2, 3, 0, 0, 0, 7, 9, 1, 65534, 65534, 4))) {
		l, e := info.Get(s, 0)
		if e != api.OK || !info.Is(l) {
			t.Fatalf("P14.4: Get(%q, 0) is %v, %d", s, l, e)
		}
		for i, p := range l {
			if v, ok := info.Find(l, p.Glyph); v != int(int16(int(s[4+4*i])<<8|int(s[5+4*i]))) || !ok {
				t.Errorf("P14.4: Find(%v, %d) is %d, %v", l, p.Glyph, v, ok)
			}
		}
		for g := range 65536 {
			if _, ok := info.Find(l, g); ok != slices.ContainsFunc(l, func(p api.Pair) bool { return p.Glyph == g }) {
				t.Errorf("P14.1: Find(%v, %d) is %v", l, g, ok)
			}
		}
	}
}

func TestArgumentsStay(t *testing.T) {
	whole := append(every(20, 100, 2), pairs(1, 2, 3, 4)...)
	for _, l := range [][]api.Pair{whole[:20], whole, pairs(6, 1, 5, 2), pairs(5, 40000, 6, 0), every(20000, 0, 1)} {
		before := slices.Clone(l)
		info.Is(l)
		info.Find(l, 110)
		info.Find(l, 3)
		info.Put(l)
		if !slices.Equal(l, before) {
			t.Errorf("R2: the pairs %v, of %d, were modified", shortList(before), len(before))
		}
	}
	if !slices.Equal(whole[20:], pairs(1, 2, 3, 4)) {
		t.Errorf("R2: what lies behind a list was modified: %v", whole[20:])
	}
}

func TestAnswersStay(t *testing.T) {
	s, _ := info.Put(every(20, 100, 2))
	first, _ := info.Get(s, 0)
	second, _ := info.Get(s, 0)
	for i := range first {
		first[i] = api.Pair{Glyph: -7, Value: -7}
	}
	if third, e := info.Get(s, 0); e != api.OK || !slices.Equal(second, every(20, 100, 2)) || !slices.Equal(third, second) {
		t.Errorf("R2: an answer changed with another: %v and %v", shortList(second), shortList(third))
	}
	l := every(20, 100, 2)
	put, _ := info.Put(l)
	l[0], l[19] = api.Pair{}, api.Pair{}
	if put != s {
		t.Errorf("R2: an answer changed with its list: %q", put)
	}
}

// The same question has the same answer, whatever was asked before.
func TestAnswersHangOnArgumentsAlone(t *testing.T) {
	random := source(144)
	known := pairs(5, -1, 6, 300, 7, 32767, 8, -32768)
	for range 200 {
		info.Put(randomPairs(random))
		info.Find(randomPairs(random), random(100))
		info.Get(words(random(20), random(3), 1, 1, 5, 6), 0)
		if v, ok := info.Find(known, 6); v != 300 || !ok {
			t.Fatalf("R3: Find: %d, %v", v, ok)
		}
		wantPut(t, known, api.OK)
		wantGet(t, words(8, 1, 7, 0, 1, 1, 9), 0, api.OK)
	}
}

// The values of a font with twice as many units per em are twice as great: so they are read and written.
func TestTwiceAsManyUnits(t *testing.T) {
	for _, n := range []int{-16384, -5000, -1, 0, 1, 250, 8000, 16383} {
		once, _ := info.Put(pairs(3, n, 9, 1))
		twice, _ := info.Put(pairs(3, 2*n, 9, 2))
		l, e := info.Get(once, 0)
		m, f := info.Get(twice, 0)
		if e != api.OK || f != api.OK || m[0].Value != 2*l[0].Value || m[1].Value != 2*l[1].Value {
			t.Errorf("T4: the value %d, twice: %v and %v", n, l, m)
		}
	}
}
