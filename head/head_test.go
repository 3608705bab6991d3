package head_test

import (
	"math"
	"math/big"
	"strings"
	"testing"

	"vinculum/api"
	"vinculum/fixed"
	"vinculum/head"
)

// tables are the three that Get reads.
type tables struct {
	head, maxp, hhea string
}

// plain is a head with nothing wrong.
func plain() api.Head {
	return api.Head{Upem: 1000, Glyphs: 700, Metrics: 650, Ascender: 800, Descender: -200}
}

// valid is by the words of the chapter's terms, with its numbers.
func valid(h api.Head) bool {
	upem := 16 <= h.Upem && h.Upem <= 16384
	glyphs := 1 <= h.Glyphs && h.Glyphs <= 65535
	metrics := 1 <= h.Metrics && h.Metrics <= h.Glyphs
	ascender := -32768 <= h.Ascender && h.Ascender <= 32767
	descender := -32768 <= h.Descender && h.Descender <= 32767
	return upem && glyphs && metrics && ascender && descender
}

// pair is a number's two bytes, whatever its sign.
func pair(n int) string { return string([]byte{byte(n >> 8), byte(n)}) }

// turned is a text with other bytes at a place.
func turned(s string, at int, with string) string { return s[:at] + with + s[at+len(with):] }

// written lays a head's tables by the words of P5.2, valid or not; fill is every byte that is ignored.
func written(h api.Head, fill string) tables {
	format := 0
	if h.Long {
		format = 1
	}
	a := strings.Repeat(fill, 54)
	a = turned(a, 12, "\x5f\x0f\x3c\xf5")
	a = turned(a, 18, pair(h.Upem))
	a = turned(a, 50, pair(format))
	b := turned(strings.Repeat(fill, 6), 4, pair(h.Glyphs))
	c := strings.Repeat(fill, 36)
	c = turned(c, 4, pair(h.Ascender))
	c = turned(c, 6, pair(h.Descender))
	c = turned(c, 34, pair(h.Metrics))
	return tables{a, b, c}
}

// model reads tables by the words of P5.2, one after the other.
func model(w tables) (api.Head, api.Errno) {
	number := func(s string, at int) int { return int(s[at])*256 + int(s[at+1]) }
	signed := func(s string, at int) int {
		n := number(s, at)
		if n > 32767 {
			n -= 65536
		}
		return n
	}
	if len(w.head) < 54 || len(w.maxp) < 6 || len(w.hhea) < 36 {
		return api.Head{}, api.ErrMore
	}
	if number(w.head, 12)*65536+number(w.head, 14) != 1594834165 {
		return api.Head{}, api.ErrForm
	}
	if f := signed(w.head, 50); f != 0 && f != 1 {
		return api.Head{}, api.ErrForm
	}
	h := api.Head{
		Upem: number(w.head, 18), Glyphs: number(w.maxp, 4), Metrics: number(w.hhea, 34),
		Ascender: signed(w.hhea, 4), Descender: signed(w.hhea, 6), Long: signed(w.head, 50) == 1,
	}
	if !valid(h) {
		return api.Head{}, api.ErrForm
	}
	return h, api.OK
}

// ignored tells the places of the three tables that no field has.
func ignored() [3][]int {
	fields := [3]string{
		strings.Repeat(".", 12) + "mmmm.." + "uu" + strings.Repeat(".", 30) + "ff..",
		"....gg",
		"....aadd" + strings.Repeat(".", 26) + "mm",
	}
	var out [3][]int
	for i, f := range fields {
		for at := range len(f) {
			if f[at] == '.' {
				out[i] = append(out[i], at)
			}
		}
	}
	return out
}

// source gives numbers below a bound; the same seed gives the same ones.
func source(seed int) func(int) int {
	bits := uint64(seed)*2862933555777941757 + 3037000493
	return func(bound int) int {
		bits = bits*6364136223846793005 + 1442695040888963407
		return int((bits >> 33) % uint64(bound))
	}
}

// some is a valid head, at the edges at times.
func some(next func(int) int) api.Head {
	pick := func(least, greatest int) int {
		switch next(4) {
		case 0:
			return least
		case 1:
			return greatest
		default:
			return least + next(greatest-least+1)
		}
	}
	glyphs := pick(1, 65535)
	return api.Head{
		Upem: pick(16, 16384), Glyphs: glyphs, Metrics: pick(1, glyphs),
		Ascender: pick(-32768, 32767), Descender: pick(-32768, 32767), Long: next(2) == 1,
	}
}

// edges are heads of which one number or two are at a limit, beside it or far off; most are not valid.
func edges() []api.Head {
	var l []api.Head
	add := func(change func(*api.Head)) {
		h := plain()
		change(&h)
		l = append(l, h)
		h.Long = true
		l = append(l, h)
	}
	far := []int{math.MinInt, math.MinInt + 1, math.MinInt32, -65536, -1, 0, 1, 65536, 1 << 20, math.MaxInt32, 1 << 32, 1<<32 + 1000, 1<<62 + 1, math.MaxInt - 1, math.MaxInt}
	for _, n := range append(far, 2, 14, 15, 16, 17, 999, 1001, 2048, 16383, 16384, 16385, 32768, 65535) {
		add(func(h *api.Head) { h.Upem = n })
	}
	for _, n := range append(far, 2, 649, 650, 651, 65534, 65535, 65537) {
		add(func(h *api.Head) { h.Glyphs = n })
		add(func(h *api.Head) { h.Glyphs, h.Metrics = n, 1 })
		add(func(h *api.Head) { h.Glyphs, h.Metrics = n, n })
		add(func(h *api.Head) { h.Glyphs, h.Metrics = n, n-1 })
		add(func(h *api.Head) { h.Glyphs, h.Metrics = n, n+1 })
	}
	for _, n := range append(far, 2, 649, 650, 651, 699, 700, 701, 65535) {
		add(func(h *api.Head) { h.Metrics = n })
		add(func(h *api.Head) { h.Glyphs, h.Metrics = 65535, n })
		add(func(h *api.Head) { h.Glyphs, h.Metrics = 1, n })
	}
	for _, n := range append(far, -32770, -32769, -32768, -32767, 32766, 32767, 32768, 32769, 65535) {
		add(func(h *api.Head) { h.Ascender = n })
		add(func(h *api.Head) { h.Descender = n })
		add(func(h *api.Head) { h.Ascender, h.Descender = n, n })
	}
	return append(l, api.Head{}, api.Head{Long: true})
}

func checkGet(t *testing.T, w tables, want api.Head, wantE api.Errno) {
	t.Helper()
	if h, e := head.Get(w.head, w.maxp, w.hhea); h != want || e != wantE {
		t.Errorf("P5.2: Get(%q, %q, %q) is %v, %d, not %v, %d", w.head, w.maxp, w.hhea, h, e, want, wantE)
	}
}

func checkFault(t *testing.T, w tables, want api.Errno) {
	t.Helper()
	checkGet(t, w, api.Head{}, want)
}

// checkModel holds Get against the model.
func checkModel(t *testing.T, w tables) {
	t.Helper()
	h, e := model(w)
	checkGet(t, w, h, e)
}

func checkPut(t *testing.T, h api.Head, want tables, wantE api.Errno) {
	t.Helper()
	a, b, c, e := head.Put(h)
	if (tables{a, b, c}) != want || e != wantE {
		t.Errorf("P5.3: Put(%v) is %q, %q, %q, %d, not %q, %d", h, a, b, c, e, want, wantE)
	}
}

func checkUnits(t *testing.T, h api.Head, n, size, want int, wantE api.Errno) {
	t.Helper()
	if got, e := head.Units(h, n, size); got != want || e != wantE {
		t.Errorf("P5.4: Units(%v, %d, %d) is %d, %d, not %d, %d", h, n, size, got, e, want, wantE)
	}
}

func TestIsAtEachLimit(t *testing.T) {
	for _, k := range []struct {
		h    api.Head
		want bool
	}{
		{api.Head{Upem: 1000, Glyphs: 700, Metrics: 650, Ascender: 800, Descender: -200}, true},
		{api.Head{Upem: 16, Glyphs: 1, Metrics: 1}, true},
		{api.Head{Upem: 15, Glyphs: 1, Metrics: 1}, false},
		{api.Head{Upem: 16384, Glyphs: 1, Metrics: 1}, true},
		{api.Head{Upem: 16385, Glyphs: 1, Metrics: 1}, false},
		{api.Head{Upem: 16, Glyphs: 0, Metrics: 0}, false},
		{api.Head{Upem: 16, Glyphs: 0, Metrics: 1}, false},
		{api.Head{Upem: 16, Glyphs: 65535, Metrics: 1}, true},
		{api.Head{Upem: 16, Glyphs: 65536, Metrics: 1}, false},
		{api.Head{Upem: 16, Glyphs: 65535, Metrics: 65535}, true},
		{api.Head{Upem: 16, Glyphs: 65535, Metrics: 65536}, false},
		{api.Head{Upem: 16, Glyphs: 65536, Metrics: 65536}, false},
		{api.Head{Upem: 16, Glyphs: 9, Metrics: 0}, false},
		{api.Head{Upem: 16, Glyphs: 9, Metrics: 9}, true},
		{api.Head{Upem: 16, Glyphs: 9, Metrics: 10}, false},
		{api.Head{Upem: 16, Glyphs: -1, Metrics: -1}, false},
		{api.Head{Upem: 16, Glyphs: 1, Metrics: 1, Ascender: -32768, Descender: 32767}, true},
		{api.Head{Upem: 16, Glyphs: 1, Metrics: 1, Ascender: 32767, Descender: -32768, Long: true}, true},
		{api.Head{Upem: 16, Glyphs: 1, Metrics: 1, Ascender: -32769}, false},
		{api.Head{Upem: 16, Glyphs: 1, Metrics: 1, Ascender: 32768}, false},
		{api.Head{Upem: 16, Glyphs: 1, Metrics: 1, Descender: -32769}, false},
		{api.Head{Upem: 16, Glyphs: 1, Metrics: 1, Descender: 32768}, false},
		{api.Head{}, false},
	} {
		if got := head.Is(k.h); got != k.want {
			t.Errorf("P5.1: Is(%v) is %t", k.h, got)
		}
	}
}

func TestIsByTheWords(t *testing.T) {
	for _, h := range edges() {
		if got := head.Is(h); got != valid(h) {
			t.Errorf("P5.1: Is(%v) is %t", h, got)
		}
	}
	next := source(1)
	for range 2000 {
		if h := some(next); !head.Is(h) {
			t.Errorf("P5.1: Is(%v) is false", h)
		}
	}
}

func TestGetReadsWhatIsWritten(t *testing.T) {
	w := tables{
		"versrevisum!\x5f\x0f\x3c\xf5" + "fl\x08\x00" + strings.Repeat("?", 30) + "\x00\x01" + "gd",
		"more\x01\x02",
		"more\xff\xff\x80\x00" + strings.Repeat("*", 26) + "\x00\x03",
	}
	long := api.Head{Upem: 2048, Glyphs: 258, Metrics: 3, Ascender: -1, Descender: -32768, Long: true}
	checkGet(t, w, long, api.OK)
	short := long
	short.Long = false
	checkGet(t, tables{turned(w.head, 50, "\x00\x00"), w.maxp, w.hhea}, short, api.OK)
	// All bytes of these numbers differ, so one that is read from another's place, or backwards, is told.
	other := api.Head{Upem: 0x0123, Glyphs: 0x8967, Metrics: 0x4567, Ascender: 0x0a0b, Descender: 0x0c0d}
	checkGet(t, written(other, "\x00"), other, api.OK)
}

func TestGetAsksForAllBytes(t *testing.T) {
	h := plain()
	w := written(h, "\xff")
	for n := range 70 {
		tail := w
		tail.head = (w.head + strings.Repeat("\xff", 20))[:n]
		checkModel(t, tail)
		tail = w
		tail.maxp = (w.maxp + strings.Repeat("\xff", 70))[:n]
		checkModel(t, tail)
		tail = w
		tail.hhea = (w.hhea + strings.Repeat("\xff", 40))[:n]
		checkModel(t, tail)
	}
	checkFault(t, tables{w.head[:53], w.maxp, w.hhea}, api.ErrMore)
	checkFault(t, tables{w.head, w.maxp[:5], w.hhea}, api.ErrMore)
	checkFault(t, tables{w.head, w.maxp, w.hhea[:35]}, api.ErrMore)
	checkFault(t, tables{}, api.ErrMore)
	more := strings.Repeat("behind", 10000)
	checkGet(t, tables{w.head + "x", w.maxp + "y", w.hhea + "z"}, h, api.OK)
	checkGet(t, tables{w.head + more, w.maxp + more, w.hhea + more}, h, api.OK)
	// One table's length makes up for no other's.
	checkFault(t, tables{w.head + more, w.maxp[:5], w.hhea + more}, api.ErrMore)
	checkFault(t, tables{w.maxp, w.head, w.hhea}, api.ErrMore)
	checkFault(t, tables{w.head, w.hhea, w.maxp}, api.ErrMore)
}

func TestGetTellsMissingBytesFirst(t *testing.T) {
	w := written(plain(), "\x00")
	bad := tables{strings.Repeat("\xff", 54), strings.Repeat("\x00", 6), strings.Repeat("\x00", 36)}
	checkFault(t, bad, api.ErrForm)
	for _, k := range []tables{
		{turned(w.head, 12, "x"), w.maxp[:5], w.hhea},
		{turned(w.head, 12, "x"), w.maxp, w.hhea[:35]},
		{turned(w.head, 51, "\x02"), w.maxp[:5], w.hhea},
		{turned(w.head, 51, "\x02"), w.maxp, w.hhea[:35]},
		{turned(w.head, 18, "\x00\x0f"), w.maxp, ""},
		{turned(w.head, 12, "x")[:53], w.maxp, w.hhea},
		{w.head, turned(w.maxp, 4, "\x00\x00"), w.hhea[:35]},
		{w.head[:53], turned(w.maxp, 4, "\x00\x00"), w.hhea},
		{w.head, w.maxp[:5], turned(w.hhea, 34, "\x00\x00")},
		{bad.head[:53], bad.maxp, bad.hhea}, {bad.head, bad.maxp[:5], bad.hhea}, {bad.head, bad.maxp, bad.hhea[:35]},
		{bad.head, "", ""}, {"", bad.maxp, ""}, {"", "", bad.hhea},
	} {
		checkFault(t, k, api.ErrMore)
	}
}

func TestGetAsksTheNumberOfHead(t *testing.T) {
	w := written(plain(), "\x00")
	for _, k := range []string{
		"\x5f\x0f\x3c\xf4", "\x5f\x0f\x3c\xf6", "\x5f\x0f\x3b\xf5", "\x5f\x10\x3c\xf5", "\x60\x0f\x3c\xf5", "\xdf\x0f\x3c\xf5",
		"\xf5\x3c\x0f\x5f", "\x00\x00\x00\x00", "\xff\xff\xff\xff", "\x00\x00\x3c\xf5", "\x5f\x0f\x00\x00",
	} {
		checkFault(t, tables{turned(w.head, 12, k), w.maxp, w.hhea}, api.ErrForm)
	}
	for at := 12; at < 16; at++ {
		for c := range 256 {
			checkModel(t, tables{turned(w.head, at, string([]byte{byte(c)})), w.maxp, w.hhea})
		}
	}
}

func TestGetAsksTheFormat(t *testing.T) {
	h := plain()
	w := written(h, "\x00")
	long := h
	long.Long = true
	for n := -32768; n < 32768; n++ {
		k := tables{turned(w.head, 50, pair(n)), w.maxp, w.hhea}
		switch n {
		case 0:
			checkGet(t, k, h, api.OK)
		case 1:
			checkGet(t, k, long, api.OK)
		default:
			checkFault(t, k, api.ErrForm)
		}
	}
}

func TestGetAsksEveryNumber(t *testing.T) {
	w := written(plain(), "\x00")
	for n := range 65536 {
		checkModel(t, tables{turned(w.head, 18, pair(n)), w.maxp, w.hhea})
		checkModel(t, tables{w.head, turned(w.maxp, 4, pair(n)), w.hhea})
		checkModel(t, tables{w.head, w.maxp, turned(w.hhea, 4, pair(n))})
		checkModel(t, tables{w.head, w.maxp, turned(w.hhea, 6, pair(n))})
		checkModel(t, tables{w.head, w.maxp, turned(w.hhea, 34, pair(n))})
	}
}

func TestGetRefusesWhatIsNotValid(t *testing.T) {
	for _, k := range []struct{ upem, glyphs, metrics int }{
		{0, 2, 1}, {15, 2, 1}, {16385, 2, 1}, {32768, 2, 1}, {65535, 2, 1},
		{1000, 0, 0}, {1000, 0, 1}, {1000, 2, 0}, {1000, 2, 3}, {1000, 2, 65535}, {1000, 65534, 65535},
	} {
		checkFault(t, written(api.Head{Upem: k.upem, Glyphs: k.glyphs, Metrics: k.metrics}, "\x00"), api.ErrForm)
		checkFault(t, written(api.Head{Upem: k.upem, Glyphs: k.glyphs, Metrics: k.metrics, Long: true}, "\xff"), api.ErrForm)
	}
	for _, k := range []api.Head{
		{Upem: 16, Glyphs: 1, Metrics: 1}, {Upem: 16384, Glyphs: 65535, Metrics: 65535}, {Upem: 1000, Glyphs: 65535, Metrics: 1, Long: true},
		{Upem: 16, Glyphs: 2, Metrics: 2, Ascender: -32768, Descender: 32767}, {Upem: 16, Glyphs: 2, Metrics: 1, Ascender: 32767, Descender: -32768},
	} {
		checkGet(t, written(k, "\x00"), k, api.OK)
		checkGet(t, written(k, "\xff"), k, api.OK)
	}
}

func TestGetByTheWords(t *testing.T) {
	next := source(2)
	bytes := func(n int) string {
		b := make([]byte, n)
		for i := range b {
			b[i] = []byte{0, 255, 128, byte(next(256))}[next(4)]
		}
		return string(b)
	}
	found := map[api.Errno]int{}
	for range 20000 {
		w := tables{bytes(52 + next(6)), bytes(5 + next(5)), bytes(35 + next(5))}
		if next(8) != 0 && len(w.head) > 53 {
			w.head = turned(turned(w.head, 12, "\x5f\x0f\x3c\xf5"), 50, pair(next(3)))
		}
		_, e := model(w)
		found[e]++
		checkModel(t, w)
	}
	if found[api.OK] < 100 || found[api.ErrMore] < 100 || found[api.ErrForm] < 100 {
		t.Errorf("the tables are too much of one kind: %v", found)
	}
}

func TestPutWritesTheFields(t *testing.T) {
	nought := func(n int) string { return strings.Repeat("\x00", n) }
	checkPut(t, api.Head{Upem: 2048, Glyphs: 258, Metrics: 3, Ascender: -1, Descender: -32768, Long: true}, tables{
		nought(12) + "\x5f\x0f\x3c\xf5" + nought(2) + "\x08\x00" + nought(30) + "\x00\x01" + nought(2),
		nought(4) + "\x01\x02",
		nought(4) + "\xff\xff\x80\x00" + nought(26) + "\x00\x03",
	}, api.OK)
	checkPut(t, api.Head{Upem: 0x0123, Glyphs: 0x8967, Metrics: 0x4567, Ascender: 0x0a0b, Descender: 0x0c0d}, tables{
		nought(12) + "\x5f\x0f\x3c\xf5" + nought(2) + "\x01\x23" + nought(34),
		nought(4) + "\x89\x67",
		nought(4) + "\x0a\x0b\x0c\x0d" + nought(26) + "\x45\x67",
	}, api.OK)
}

func TestPutTellsWhatIsNotValid(t *testing.T) {
	right, wrong := 0, 0
	for _, h := range edges() {
		if valid(h) {
			right++
			checkPut(t, h, written(h, "\x00"), api.OK)
		} else {
			wrong++
			checkPut(t, h, tables{}, api.ErrArg)
		}
	}
	if right < 50 || wrong < 50 {
		t.Errorf("the heads are too much of one kind: %d valid ones, %d others", right, wrong)
	}
}

// nearest is a quotient worked out without bounds, halves away from 0.
func nearest(n, size, upem int) *big.Int {
	twice := new(big.Int).Mul(big.NewInt(int64(n)), big.NewInt(int64(size)))
	sign := big.NewInt(int64(twice.Sign()))
	twice.Abs(twice).Lsh(twice, 1).Add(twice, big.NewInt(int64(upem)))
	return twice.Div(twice, big.NewInt(2*int64(upem))).Mul(twice, sign)
}

func TestUnitsConverts(t *testing.T) {
	h := plain()
	for _, k := range []struct{ upem, n, size, want int }{
		{1000, 500, 655360, 327680}, {1000, 1000, 655360, 655360}, {1000, -250, 655360, -163840}, {1000, 250, -655360, -163840}, {1000, -250, -655360, 163840},
		{2048, 1, 655360, 320}, {2048, 1, 1024, 1}, {2048, -1, 1024, -1}, {2048, 1, 1023, 0}, {2048, -1, 1023, 0}, {2048, 3, 1024, 2},
		{16, 1, 8, 1}, {16, 1, 7, 0}, {16, -1, 8, -1}, {16384, 1, 8192, 1}, {16384, 1, 8191, 0},
		{1000, 0, 655360, 0}, {1000, 700, 0, 0}, {1000, api.MaxLen, 1000, api.MaxLen}, {1000, -api.MaxLen, 1000, -api.MaxLen}, {16, 16, api.MaxLen, api.MaxLen},
	} {
		h.Upem = k.upem
		checkUnits(t, h, k.n, k.size, k.want, api.OK)
		// Nothing but Upem counts.
		checkUnits(t, api.Head{Upem: k.upem, Glyphs: 1, Metrics: 1, Ascender: 32767, Descender: -32768, Long: true}, k.n, k.size, k.want, api.OK)
	}
}

func TestUnitsWithoutBounds(t *testing.T) {
	numbers := []int{0, 1, 2, 3, 7, 8, 9, 499, 500, 501, 999, 1000, 1001, 8192, 32767, 32768, 65536, 655360, 1 << 20, 786431, 46340 * 700, api.MaxLen / 2, api.MaxLen - 1, api.MaxLen}
	limit := big.NewInt(api.MaxLen)
	over := 0
	for _, upem := range []int{16, 17, 999, 1000, 1001, 2048, 16383, 16384} {
		h := plain()
		h.Upem = upem
		for _, a := range numbers {
			for _, b := range numbers {
				for _, k := range [][2]int{{a, b}, {-a, b}, {a, -b}, {-a, -b}} {
					n, size := k[0], k[1]
					want := nearest(n, size, upem)
					if want.CmpAbs(limit) > 0 {
						over++
						checkUnits(t, h, n, size, 0, api.ErrOver)
					} else {
						checkUnits(t, h, n, size, int(want.Int64()), api.OK)
					}
				}
			}
		}
	}
	if over == 0 {
		t.Error("no result is out of range")
	}
}

func TestUnitsHasTheErrorsOfMulDiv(t *testing.T) {
	h := plain()
	off := []int{api.MaxLen + 1, -api.MaxLen - 1, math.MaxInt32, math.MinInt32, 1 << 32, math.MaxInt, math.MinInt}
	for _, n := range off {
		for _, other := range append(off, 0, 1, -1, 1000, api.MaxLen) {
			checkUnits(t, h, n, other, 0, api.ErrArg)
			checkUnits(t, h, other, n, 0, api.ErrArg)
		}
	}
	h.Upem = 16
	checkUnits(t, h, api.MaxLen, 16, api.MaxLen, api.OK)
	checkUnits(t, h, api.MaxLen, 17, 0, api.ErrOver)
	checkUnits(t, h, -17, api.MaxLen, 0, api.ErrOver)
	checkUnits(t, h, api.MaxLen, api.MaxLen, 0, api.ErrOver)
	checkUnits(t, h, -api.MaxLen, api.MaxLen, 0, api.ErrOver)
}

func TestUnitsTellsWhatIsNotValid(t *testing.T) {
	for _, h := range edges() {
		for _, k := range [][2]int{{1000, 655360}, {0, 0}, {1, 1}, {-3, 77}, {api.MaxLen, api.MaxLen}, {api.MaxLen + 1, 1}} {
			if !valid(h) {
				checkUnits(t, h, k[0], k[1], 0, api.ErrArg)
				continue
			}
			want, e := fixed.MulDiv(k[0], k[1], h.Upem)
			checkUnits(t, h, k[0], k[1], want, e)
		}
	}
}

func TestWhatPutWritesGetReads(t *testing.T) {
	check := func(h api.Head) {
		t.Helper()
		a, b, c, e := head.Put(h)
		got, e2 := head.Get(a, b, c)
		if got != h || e != api.OK || e2 != api.OK {
			t.Errorf("P5.5: %v is written as %q, %q, %q (%d) and read as %v (%d)", h, a, b, c, e, got, e2)
		}
	}
	for _, h := range edges() {
		if valid(h) {
			check(h)
		}
	}
	next := source(3)
	for range 5000 {
		check(some(next))
	}
}

func TestIgnoredBytesMakeNoDifference(t *testing.T) {
	next := source(4)
	places := ignored()
	if len(places[0]) != 46 || len(places[1]) != 4 || len(places[2]) != 30 {
		t.Fatalf("the ignored bytes are %v", places)
	}
	for _, h := range []api.Head{plain(), some(next), some(next), {Upem: 16, Glyphs: 1, Metrics: 1, Long: true}} {
		a, b, c, _ := head.Put(h)
		check := func(w tables) {
			t.Helper()
			if got, e := head.Get(w.head, w.maxp, w.hhea); got != h || e != api.OK {
				t.Errorf("P5.5: %q is read as %v, %d, not %v", w, got, e, h)
			}
		}
		for n := range 256 {
			with := string([]byte{byte(n)})
			for _, at := range places[0] {
				check(tables{turned(a, at, with), b, c})
			}
			for _, at := range places[1] {
				check(tables{a, turned(b, at, with), c})
			}
			for _, at := range places[2] {
				check(tables{a, b, turned(c, at, with)})
			}
			check(written(h, with))
			check(tables{a + with, b + with + with, c + strings.Repeat(with, 100)})
		}
	}
}

func TestAnEmIsTheSize(t *testing.T) {
	next := source(5)
	sizes := []int{0, 1, -1, 2, 3, 65535, 65536, 655360, -655360, api.MaxLen / 2, api.MaxLen - 1, api.MaxLen, 1 - api.MaxLen, -api.MaxLen}
	check := func(h api.Head, size int) {
		t.Helper()
		if got, e := head.Units(h, h.Upem, size); got != size || e != api.OK {
			t.Errorf("P5.5: Units(%v, %d, %d) is %d, %d", h, h.Upem, size, got, e)
		}
	}
	h := plain()
	for h.Upem = 16; h.Upem <= 16384; h.Upem++ {
		for _, size := range sizes {
			check(h, size)
		}
		check(h, next(api.MaxLen)-next(api.MaxLen))
	}
}
