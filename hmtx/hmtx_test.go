package hmtx_test

import (
	"math"
	"slices"
	"strings"
	"testing"

	"vinculum/api"
	"vinculum/hmtx"
)

// far are numbers that no glyph's number, count or field reaches.
var far = []int{math.MinInt, math.MinInt + 1, math.MinInt32, -1 << 20, 1 << 20, math.MaxInt32, 1 << 32, 1<<32 + 1, 1 << 62, 1<<62 + 1, math.MaxInt - 1, math.MaxInt}

// pair is a number's two bytes, whatever its sign.
func pair(n int) string { return string([]byte{byte(n >> 8), byte(n)}) }

// model reads a table by the words of P6.1, one after the other.
func model(s string, glyphs, metrics int) ([]api.Metric, api.Errno) {
	number := func(at int) int { return int(s[at])*256 + int(s[at+1]) }
	signed := func(at int) int {
		n := number(at)
		if n > 32767 {
			n -= 65536
		}
		return n
	}
	if !(1 <= glyphs && glyphs <= 65535) || !(1 <= metrics && metrics <= glyphs) {
		return nil, api.ErrArg
	}
	if len(s) < 4*metrics+2*(glyphs-metrics) {
		return nil, api.ErrMore
	}
	var l []api.Metric
	for g := range glyphs {
		if g < metrics {
			l = append(l, api.Metric{Adv: number(4 * g), Side: signed(4*g + 2)})
		} else {
			l = append(l, api.Metric{Adv: number(4 * (metrics - 1)), Side: signed(4*metrics + 2*(g-metrics))})
		}
	}
	return l, api.OK
}

// written lays a table with so many full metrics, whatever the widths behind them are.
func written(l []api.Metric, metrics int) string {
	var b strings.Builder
	for g, m := range l {
		if g < metrics {
			b.WriteString(pair(m.Adv))
		}
		b.WriteString(pair(m.Side))
	}
	return b.String()
}

// least tries one number of metrics after the other, till a table with so many says what l does.
func least(l []api.Metric) int {
	for n := 1; ; n++ {
		if !slices.ContainsFunc(l[n:], func(m api.Metric) bool { return m.Adv != l[n-1].Adv }) {
			return n
		}
	}
}

// modelPut is by the words of P6.2, with its numbers.
func modelPut(l []api.Metric) (string, int, api.Errno) {
	if len(l) == 0 || len(l) > 65535 {
		return "", 0, api.ErrArg
	}
	for _, m := range l {
		if m.Adv < 0 || m.Adv > 65535 || m.Side < -32768 || m.Side > 32767 {
			return "", 0, api.ErrOver
		}
	}
	n := least(l)
	return written(l, n), n, api.OK
}

// source gives numbers below a bound; the same seed gives the same ones.
func source(seed int) func(int) int {
	bits := uint64(seed)*2862933555777941757 + 3037000493
	return func(bound int) int {
		bits = bits*6364136223846793005 + 1442695040888963407
		return int((bits >> 33) % uint64(bound))
	}
}

// some is a list that Put takes, with neighbours that are equally wide at times, and more often so at the end.
func some(next func(int) int, n int) []api.Metric {
	pick := func(l ...int) int { return l[next(len(l))] }
	widths := []int{0, 1, 255, 256, 32768, 65534, 65535, next(65536)}[:1+next(8)]
	l := make([]api.Metric, n)
	for i := range l {
		l[i] = api.Metric{Adv: pick(widths...), Side: pick(-32768, -32767, -256, -1, 0, 1, 255, 32767, next(65536)-32768)}
	}
	if n > 0 {
		for i := next(n); i < n; i++ {
			l[i].Adv = l[n-1].Adv
		}
	}
	return l
}

// bytes are so many of all kinds.
func bytes(next func(int) int, n int) string {
	b := make([]byte, n)
	for i := range b {
		b[i] = []byte{0, 1, 127, 128, 255, byte(next(256))}[next(6)]
	}
	return string(b)
}

func short[T any](l []T) []T { return l[:min(len(l), 20)] }

func shortText(s string) string { return s[:min(len(s), 60)] }

func checkGet(t *testing.T, s string, glyphs, metrics int, want []api.Metric, wantE api.Errno) {
	t.Helper()
	l, e := hmtx.Get(s, glyphs, metrics)
	if !slices.Equal(l, want) || e != wantE {
		t.Errorf("P6.1: Get(%q, of %d bytes, %d, %d) is %v, of %d, %d, not %v, of %d, %d", shortText(s), len(s), glyphs, metrics, short(l), len(l), e, short(want), len(want), wantE)
	}
}

// checkModel holds Get against the model.
func checkModel(t *testing.T, s string, glyphs, metrics int) {
	t.Helper()
	want, e := model(s, glyphs, metrics)
	checkGet(t, s, glyphs, metrics, want, e)
}

func checkPut(t *testing.T, l []api.Metric, want string, wantN int, wantE api.Errno) {
	t.Helper()
	before := slices.Clone(l)
	s, n, e := hmtx.Put(l)
	if s != want || n != wantN || e != wantE {
		t.Errorf("P6.2: Put(%v, of %d) is %q, of %d bytes, %d, %d, not %q, of %d, %d, %d", short(l), len(l), shortText(s), len(s), n, e, shortText(want), len(want), wantN, wantE)
	}
	if !slices.Equal(l, before) {
		t.Errorf("R2: Put changed its metrics from %v to %v", short(before), short(l))
	}
}

// checkModelPut holds Put against the model.
func checkModelPut(t *testing.T, l []api.Metric) {
	t.Helper()
	s, n, e := modelPut(l)
	checkPut(t, l, s, n, e)
}

func checkWidth(t *testing.T, l []api.Metric, g, want int, wantE api.Errno) {
	t.Helper()
	if got, e := hmtx.Width(l, g); got != want || e != wantE {
		t.Errorf("P6.3: Width(%v, of %d, %d) is %d, %d, not %d, %d", short(l), len(l), g, got, e, want, wantE)
	}
}

func TestGetReadsWhatIsWritten(t *testing.T) {
	s := "\x00\x01\x00\x02\xff\xff\xff\xff\x80\x00\x80\x00\x7f\xff"
	checkGet(t, s, 1, 1, []api.Metric{{Adv: 1, Side: 2}}, api.OK)
	checkGet(t, s, 2, 1, []api.Metric{{Adv: 1, Side: 2}, {Adv: 1, Side: -1}}, api.OK)
	checkGet(t, s, 6, 1, []api.Metric{{Adv: 1, Side: 2}, {Adv: 1, Side: -1}, {Adv: 1, Side: -1}, {Adv: 1, Side: -32768}, {Adv: 1, Side: -32768}, {Adv: 1, Side: 32767}}, api.OK)
	checkGet(t, s, 2, 2, []api.Metric{{Adv: 1, Side: 2}, {Adv: 65535, Side: -1}}, api.OK)
	checkGet(t, s, 5, 2, []api.Metric{{Adv: 1, Side: 2}, {Adv: 65535, Side: -1}, {Adv: 65535, Side: -32768}, {Adv: 65535, Side: -32768}, {Adv: 65535, Side: 32767}}, api.OK)
	checkGet(t, s, 4, 3, []api.Metric{{Adv: 1, Side: 2}, {Adv: 65535, Side: -1}, {Adv: 32768, Side: -32768}, {Adv: 32768, Side: 32767}}, api.OK)
	checkGet(t, s, 4, 4, nil, api.ErrMore)
}

func TestGetReadsEachFieldThroughAllItsValues(t *testing.T) {
	for n := range 65536 {
		side := n
		if side > 32767 {
			side -= 65536
		}
		checkGet(t, pair(n)+"\x01\x02"+"\x03\x04", 2, 1, []api.Metric{{Adv: n, Side: 258}, {Adv: n, Side: 772}}, api.OK)
		checkGet(t, "\x01\x02"+pair(n)+"\x03\x04", 2, 1, []api.Metric{{Adv: 258, Side: side}, {Adv: 258, Side: 772}}, api.OK)
		checkGet(t, "\x01\x02"+"\x03\x04"+pair(n), 2, 1, []api.Metric{{Adv: 258, Side: 772}, {Adv: 258, Side: side}}, api.OK)
	}
}

func TestGetAtEveryLength(t *testing.T) {
	next := source(1)
	for glyphs := range 9 {
		for metrics := -1; metrics <= glyphs+2; metrics++ {
			for n := range 40 {
				checkModel(t, bytes(next, n), glyphs, metrics)
			}
		}
	}
}

func TestGetIgnoresWhatStandsBehind(t *testing.T) {
	next := source(2)
	for range 500 {
		glyphs := 1 + next(12)
		metrics := 1 + next(glyphs)
		s := bytes(next, 4*metrics+2*(glyphs-metrics))
		want, e := model(s, glyphs, metrics)
		checkGet(t, s, glyphs, metrics, want, e)
		for _, more := range []string{"\x00", "\xff", "\x00\x01", "\xff\xff\xff\xff", bytes(next, 1+next(300))} {
			checkGet(t, s+more, glyphs, metrics, want, e)
		}
	}
}

func TestGetTellsCountsThatAreOutOfRange(t *testing.T) {
	counts := append([]int{-65536, -65535, -2, -1, 0, 1, 2, 3, 65534, 65535, 65536, 65537, 131071}, far...)
	for _, s := range []string{"", "\x00\x01\x00", "\x00\x01\x00\x02", "\x00\x01\x00\x02\x00\x03", strings.Repeat("\x01\x02", 131072)} {
		for _, glyphs := range counts {
			for _, metrics := range counts {
				checkModel(t, s, glyphs, metrics)
			}
		}
	}
}

func TestGetOfTheMostGlyphs(t *testing.T) {
	next := source(3)
	all := bytes(next, 4*65536)
	for _, k := range []struct{ glyphs, metrics int }{
		{65535, 1}, {65535, 2}, {65535, 32768}, {65535, 65534}, {65535, 65535}, {65534, 1}, {65534, 65534}, {1, 1},
	} {
		size := 4*k.metrics + 2*(k.glyphs-k.metrics)
		checkGet(t, all[:size-1], k.glyphs, k.metrics, nil, api.ErrMore)
		checkModel(t, all[:size], k.glyphs, k.metrics)
		checkModel(t, all[:size+1], k.glyphs, k.metrics)
		checkModel(t, all, k.glyphs, k.metrics)
		checkGet(t, all, k.glyphs, 0, nil, api.ErrArg)
		checkGet(t, all, k.glyphs, k.glyphs+1, nil, api.ErrArg)
	}
	checkGet(t, all, 65536, 1, nil, api.ErrArg)
	checkGet(t, all, 65536, 65535, nil, api.ErrArg)
	checkGet(t, all, 65536, 65536, nil, api.ErrArg)
}

func TestGetTellsWrongCountsAheadOfMissingBytes(t *testing.T) {
	for _, s := range []string{"", "\x00"} {
		checkGet(t, s, 0, 0, nil, api.ErrArg)
		checkGet(t, s, 0, 1, nil, api.ErrArg)
		checkGet(t, s, 1, 0, nil, api.ErrArg)
		checkGet(t, s, 1, 2, nil, api.ErrArg)
		checkGet(t, s, -1, -1, nil, api.ErrArg)
		checkGet(t, s, 65536, 1, nil, api.ErrArg)
		checkGet(t, s, 65535, 65536, nil, api.ErrArg)
		checkGet(t, s, 65535, 65535, nil, api.ErrMore)
		checkGet(t, s, 1, 1, nil, api.ErrMore)
	}
}

func TestPutWritesTheFewestMetrics(t *testing.T) {
	for _, k := range []struct {
		l []api.Metric
		s string
		n int
	}{
		{[]api.Metric{{}}, "\x00\x00\x00\x00", 1},
		{[]api.Metric{{Adv: 258, Side: -2}}, "\x01\x02\xff\xfe", 1},
		{[]api.Metric{{Adv: 5, Side: 1}, {Adv: 5, Side: 2}}, "\x00\x05\x00\x01\x00\x02", 1},
		{[]api.Metric{{Adv: 5, Side: 1}, {Adv: 6, Side: 1}}, "\x00\x05\x00\x01\x00\x06\x00\x01", 2},
		{[]api.Metric{{Adv: 6}, {Adv: 5}, {Adv: 6}}, "\x00\x06\x00\x00\x00\x05\x00\x00\x00\x06\x00\x00", 3},
		{[]api.Metric{{Adv: 6}, {Adv: 5}, {Adv: 5}}, "\x00\x06\x00\x00\x00\x05\x00\x00\x00\x00", 2},
		{[]api.Metric{{Adv: 5}, {Adv: 5}, {Adv: 6}}, "\x00\x05\x00\x00\x00\x05\x00\x00\x00\x06\x00\x00", 3},
		{[]api.Metric{{Adv: 5, Side: 1}, {Adv: 5, Side: 2}, {Adv: 5, Side: 3}, {Adv: 5, Side: 4}}, "\x00\x05\x00\x01\x00\x02\x00\x03\x00\x04", 1},
		// The width of the first one comes again at the end, but not in a row with it.
		{[]api.Metric{{Adv: 5}, {Adv: 6}, {Adv: 5}, {Adv: 5}}, "\x00\x05\x00\x00\x00\x06\x00\x00\x00\x05\x00\x00\x00\x00", 3},
		{[]api.Metric{{Adv: 65535, Side: 32767}, {Adv: 0, Side: -32768}, {Adv: 0, Side: -1}}, "\xff\xff\x7f\xff\x00\x00\x80\x00\xff\xff", 2},
	} {
		checkPut(t, k.l, k.s, k.n, api.OK)
	}
}

func TestPutOfEveryShortList(t *testing.T) {
	for n := 1; n <= 7; n++ {
		for code := range int(math.Pow(3, float64(n))) {
			l := make([]api.Metric, n)
			for i := range l {
				l[i] = api.Metric{Adv: code % 3 * 300, Side: i - 3}
				code /= 3
			}
			checkModelPut(t, l)
		}
	}
}

func TestPutOfListsOfAllKinds(t *testing.T) {
	next := source(4)
	for range 3000 {
		checkModelPut(t, some(next, next(30)))
	}
}

func TestPutTellsListsThatAreEmptyOrTooLong(t *testing.T) {
	checkPut(t, nil, "", 0, api.ErrArg)
	checkPut(t, []api.Metric{}, "", 0, api.ErrArg)
	next := source(5)
	for _, n := range []int{65534, 65535} {
		l := some(next, n)
		l[n-3].Adv, l[n-2].Adv, l[n-1].Adv = 9, 8, 7
		checkPut(t, l, written(l, n), n, api.OK)
		l[n-1].Adv = 8
		checkPut(t, l, written(l, n-1), n-1, api.OK)
		l = make([]api.Metric, n)
		checkPut(t, l, written(l, 1), 1, api.OK)
	}
	for _, n := range []int{65536, 65537, 131072} {
		checkPut(t, some(next, n), "", 0, api.ErrArg)
		checkPut(t, make([]api.Metric, n), "", 0, api.ErrArg)
	}
}

// wrong are metrics of which one number is out of range.
func wrong() []api.Metric {
	var l []api.Metric
	for _, n := range append([]int{-65536, -65535, -32769, -32768, -2, -1, 65536, 65537, 131071}, far...) {
		l = append(l, api.Metric{Adv: n, Side: 3})
	}
	for _, n := range append([]int{-65537, -65536, -65535, -32770, -32769, 32768, 32769, 65535, 65536}, far...) {
		l = append(l, api.Metric{Adv: 3, Side: n})
	}
	return append(l, api.Metric{Adv: -1, Side: 32768}, api.Metric{Adv: 65536, Side: -32769})
}

func TestPutTellsNumbersThatAreOutOfRange(t *testing.T) {
	for _, m := range wrong() {
		checkPut(t, []api.Metric{m}, "", 0, api.ErrOver)
		for place := range 5 {
			for _, rest := range []api.Metric{{}, {Adv: 3, Side: 3}, {Adv: m.Adv}, {Side: 7}} {
				l := slices.Repeat([]api.Metric{rest}, 5)
				l[place] = m
				checkPut(t, l, "", 0, api.ErrOver)
			}
		}
		// All are as wide as the wrong one, so that only the first is written with its width.
		checkPut(t, slices.Repeat([]api.Metric{m}, 3), "", 0, api.ErrOver)
		l := make([]api.Metric, 65535)
		l[65534] = m
		checkPut(t, l, "", 0, api.ErrOver)
	}
}

func TestPutTakesNumbersAtTheLimits(t *testing.T) {
	for _, adv := range []int{0, 1, 32767, 32768, 65534, 65535} {
		for _, side := range []int{-32768, -32767, -1, 0, 1, 32766, 32767} {
			m := api.Metric{Adv: adv, Side: side}
			checkPut(t, []api.Metric{m}, pair(adv)+pair(side), 1, api.OK)
			checkPut(t, []api.Metric{m, m}, pair(adv)+pair(side)+pair(side), 1, api.OK)
			checkPut(t, []api.Metric{{Adv: 2, Side: 9}, m, m}, "\x00\x02\x00\x09"+pair(adv)+pair(side)+pair(side), 2, api.OK)
		}
	}
}

func TestPutTellsAWrongCountAheadOfWrongNumbers(t *testing.T) {
	for _, m := range wrong() {
		checkPut(t, slices.Repeat([]api.Metric{m}, 65536), "", 0, api.ErrArg)
	}
}

func TestWidthIsTheGlyphs(t *testing.T) {
	l := []api.Metric{{Adv: 500, Side: -1}, {Adv: 0, Side: 2}, {Adv: 65535, Side: 3}, {Adv: 65535, Side: 4}}
	for g, want := range []int{500, 0, 65535, 65535} {
		checkWidth(t, l, g, want, api.OK)
	}
	for _, g := range append([]int{-65536, -5, -4, -2, -1, 4, 5, 65534, 65535, 65536}, far...) {
		checkWidth(t, l, g, 0, api.ErrGlyph)
		checkWidth(t, l[:1], g, 0, api.ErrGlyph)
	}
}

func TestWidthOfListsOfAllLengths(t *testing.T) {
	next := source(6)
	for _, n := range []int{0, 1, 2, 3, 100, 65535, 65536} {
		l := some(next, n)
		for _, g := range []int{0, 1, 2, n / 2, n - 2, n - 1} {
			if g >= 0 && g < n {
				checkWidth(t, l, g, l[g].Adv, api.OK)
			}
		}
		checkWidth(t, l, -1, 0, api.ErrGlyph)
		checkWidth(t, l, n, 0, api.ErrGlyph)
		checkWidth(t, l, n+1, 0, api.ErrGlyph)
	}
	checkWidth(t, nil, 0, 0, api.ErrGlyph)
}

func TestWidthIsWhatTheMetricSays(t *testing.T) {
	// Width asks only for the glyph: what Put would not take has a width too.
	for _, m := range wrong() {
		checkWidth(t, []api.Metric{{Adv: 1}, m}, 1, m.Adv, api.OK)
	}
}

func TestWhatPutWritesGetReads(t *testing.T) {
	check := func(l []api.Metric) {
		t.Helper()
		s, n, e := hmtx.Put(l)
		got, e2 := hmtx.Get(s, len(l), n)
		if !slices.Equal(got, l) || e != api.OK || e2 != api.OK {
			t.Errorf("P6.4: %v, of %d, is written as %q, of %d bytes, %d, %d and read as %v, of %d, %d", short(l), len(l), shortText(s), len(s), n, e, short(got), len(got), e2)
		}
		if len(s) != 4*n+2*(len(l)-n) {
			t.Errorf("P6.4: %v, of %d, is written in %d bytes with %d metrics", short(l), len(l), len(s), n)
		}
	}
	next := source(7)
	for range 3000 {
		check(some(next, 1+next(40)))
	}
	for range 5 {
		check(some(next, 65535))
	}
	check(make([]api.Metric, 65535))
}

func TestFewerMetricsDoNotSayTheSame(t *testing.T) {
	next := source(8)
	for range 2000 {
		l := some(next, 1+next(20))
		_, n, _ := hmtx.Put(l)
		for fewer := 1; fewer < n; fewer++ {
			if got, e := hmtx.Get(written(l, fewer), len(l), fewer); e != api.OK || slices.Equal(got, l) {
				t.Errorf("P6.2: %v is written with %d metrics, but %d say the same", l, n, fewer)
			}
		}
	}
}

func TestWhatGetReadsPutWritesNoLonger(t *testing.T) {
	next := source(9)
	same, shorter := 0, 0
	check := func(s string, glyphs, metrics int) {
		t.Helper()
		l, e := hmtx.Get(s, glyphs, metrics)
		again, n, e2 := hmtx.Put(l)
		if e != api.OK || e2 != api.OK || len(again) > len(s) || n > metrics {
			t.Errorf("P6.4: %q, of %d bytes with %d metrics (%d), is written again in %d with %d (%d)", shortText(s), len(s), metrics, e, len(again), n, e2)
		}
		for g, m := range l {
			if g >= metrics && m.Adv != l[metrics-1].Adv {
				t.Errorf("P6.4: glyph %d of %q is %d wide, and the last full metric %d", g, shortText(s), m.Adv, l[metrics-1].Adv)
			}
		}
		if again == s {
			same++
		} else {
			shorter++
		}
	}
	for range 3000 {
		glyphs := 1 + next(20)
		metrics := 1 + next(glyphs)
		check(bytes(next, 4*metrics+2*(glyphs-metrics)), glyphs, metrics)
	}
	for range 500 {
		n := 1 + next(20)
		check(written(some(next, n), n), n, n)
	}
	for _, metrics := range []int{1, 30000, 65535} {
		check(bytes(next, 4*metrics+2*(65535-metrics)), 65535, metrics)
	}
	if same == 0 || shorter == 0 {
		t.Errorf("%d tables are written again as they were, and %d shorter: both must occur", same, shorter)
	}
}
