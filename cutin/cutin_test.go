package cutin_test

import (
	"math"
	"slices"
	"strings"
	"testing"

	"vinculum/api"
	"vinculum/cover"
	"vinculum/cutin"
)

// far are numbers that no glyph, no height and no kern reaches, many of which have 16 low bits that one could have.
var far = []int{math.MinInt, math.MinInt + 1, math.MinInt + 5, math.MinInt32, -1<<32 + 5, -131072, -65537, -65536, -65535, -65531, 65536, 65537, 65541, 131071, 131072, math.MaxInt32, 1 << 32, 1<<32 + 5, 1 << 62, 1<<62 + 5, math.MaxInt - 4, math.MaxInt - 1, math.MaxInt}

// words are numbers' bytes, two for each, one behind the other.
func words(l ...int) string {
	var b strings.Builder
	for _, n := range l {
		b.WriteByte(byte(n >> 8))
		b.WriteByte(byte(n))
	}
	return b.String()
}

// with is a text whose bytes from a place on are others.
func with(s string, at int, other string) string { return s[:at] + other + s[at+len(other):] }

// source answers a function that tells numbers from 0 to n-1, the same ones for the same seed.
func source(seed uint64) func(n int) int {
	return func(n int) int {
		seed = seed*6364136223846793005 + 1442695040888963407
		return int(seed>>33) % n
	}
}

func shortList(l []api.Kern) []api.Kern { return l[:min(len(l), 3)] }

func shortText(s string) string { return s[:min(len(s), 80)] }

// stair is of heights and kerns by turns: it begins and ends with a kern.
func stair(l ...int) api.Stair {
	x := api.Stair{}
	for i, n := range l {
		if i%2 == 0 {
			x.Kerns = append(x.Kerns, n)
		} else {
			x.Heights = append(x.Heights, n)
		}
	}
	return x
}

// steps is a stair of n heights that rise by a step, with kerns that differ, of either sign.
func steps(n, first, step int) api.Stair {
	x := api.Stair{}
	for i := range n {
		x.Heights = append(x.Heights, first+step*i)
	}
	for i := range n + 1 {
		x.Kerns = append(x.Kerns, (i*2571+33)%65536-32768)
	}
	return x
}

// higher is a stair with another height at an index.
func higher(x api.Stair, i, h int) api.Stair {
	x = cloneStair(x)
	x.Heights[i] = h
	return x
}

// kerned is a stair with another kern at an index.
func kerned(x api.Stair, i, k int) api.Stair {
	x = cloneStair(x)
	x.Kerns[i] = k
	return x
}

func cloneStair(x api.Stair) api.Stair {
	return api.Stair{Heights: slices.Clone(x.Heights), Kerns: slices.Clone(x.Kerns)}
}

func clone(l []api.Kern) []api.Kern {
	l = slices.Clone(l)
	for i := range l {
		l[i].Stairs = slices.Clone(l[i].Stairs)
		for j, x := range l[i].Stairs {
			l[i].Stairs[j] = cloneStair(x)
		}
	}
	return l
}

func sameStair(x, y api.Stair) bool {
	return slices.Equal(x.Heights, y.Heights) && slices.Equal(x.Kerns, y.Kerns)
}

func same(l, m []api.Kern) bool {
	return slices.EqualFunc(l, m, func(a, b api.Kern) bool {
		return a.Glyph == b.Glyph && slices.EqualFunc(a.Stairs, b.Stairs, sameStair)
	})
}

// kern is a glyph with its stairs.
func kern(g int, stairs ...api.Stair) api.Kern { return api.Kern{Glyph: g, Stairs: stairs} }

// empty is a glyph whose corners have no kerns.
func empty(g int) api.Kern { return kern(g, make([]api.Stair, 4)...) }

// alone is a glyph with one corner alone that has kerns.
func alone(g, corner int, x api.Stair) api.Kern {
	k := empty(g)
	k.Stairs[corner] = x
	return k
}

// every are n kerns whose glyphs rise by a step, each with the same stair at a corner, by turns.
func every(n, first, step int, x api.Stair) []api.Kern {
	l := make([]api.Kern, n)
	for i := range l {
		l[i] = alone(first+step*i, i%4, x)
	}
	return l
}

// full are n kerns whose glyphs rise by one, with the same stair at each corner.
func full(n int, x api.Stair) []api.Kern {
	l := make([]api.Kern, n)
	for i := range l {
		l[i] = kern(i, x, x, x, x)
	}
	return l
}

// another is a list with another kern at an index.
func another(l []api.Kern, i int, k api.Kern) []api.Kern {
	l = slices.Clone(l)
	l[i] = k
	return l
}

// cornered is a list with another stair at a corner of the kern at an index.
func cornered(l []api.Kern, i, corner int, x api.Stair) []api.Kern {
	l = clone(l)
	l[i].Stairs[corner] = x
	return l
}

// ofGlyphs are kerns of these glyphs, each without kerns at its corners.
func ofGlyphs(glyphs ...int) []api.Kern {
	var l []api.Kern
	for _, g := range glyphs {
		l = append(l, empty(g))
	}
	return l
}

// stored are a stair's bytes, with what is to be ignored behind each number.
func stored(x api.Stair, ignored string) string {
	s := words(len(x.Heights))
	for _, n := range append(slices.Clone(x.Heights), x.Kerns...) {
		s += words(n) + ignored
	}
	return s
}

// modelIs is by the words of the chapter.
func modelIs(x api.Stair) bool {
	n := len(x.Heights)
	if n == 0 && len(x.Kerns) == 0 {
		return true
	}
	for i, h := range x.Heights {
		if h < -32768 || h > 32767 || i > 0 && h <= x.Heights[i-1] {
			return false
		}
	}
	for _, k := range x.Kerns {
		if k < -32768 || k > 32767 {
			return false
		}
	}
	return n <= 64 && len(x.Kerns) == n+1
}

// modelAt goes through all heights.
func modelAt(x api.Stair, h int) int {
	if !modelIs(x) || len(x.Kerns) == 0 {
		return 0
	}
	i := 0
	for _, y := range x.Heights {
		if y <= h {
			i++
		}
	}
	return x.Kerns[i]
}

// modelRight is by the words of the chapters 12 and 15, each kern on its own.
func modelRight(l []api.Kern) bool {
	for i, k := range l {
		if k.Glyph < 0 || k.Glyph > 65534 || i > 0 && l[i-1].Glyph >= k.Glyph || len(k.Stairs) != 4 {
			return false
		}
		for _, x := range k.Stairs {
			if !modelIs(x) {
				return false
			}
		}
	}
	return true
}

// modelStair reads a stair by the words of P15.2, byte by byte, each number at its own place.
func modelStair(s string, at int) (api.Stair, api.Errno) {
	if at > len(s) || len(s)-at < 2 {
		return api.Stair{}, api.ErrMore
	}
	n := 256*int(s[at]) + int(s[at+1])
	if len(s)-at < 2+4*(2*n+1) {
		return api.Stair{}, api.ErrMore
	}
	if n > 64 {
		return api.Stair{}, api.ErrLong
	}
	x := api.Stair{}
	for i := range 2*n + 1 {
		place := at + 2 + 4*i
		v := 256*int(s[place]) + int(s[place+1])
		if v >= 32768 {
			v -= 65536
		}
		if i < n {
			x.Heights = append(x.Heights, v)
		} else {
			x.Kerns = append(x.Kerns, v)
		}
	}
	if !modelIs(x) {
		return api.Stair{}, api.ErrForm
	}
	return x, api.OK
}

// modelGet reads a table by the words of P15.2.
func modelGet(s string, at int) ([]api.Kern, api.Errno) {
	if at < 0 {
		return nil, api.ErrArg
	}
	if at > len(s) || len(s)-at < 4 {
		return nil, api.ErrMore
	}
	two := func(i int) int { return 256*int(s[at+i]) + int(s[at+i+1]) }
	offset, n := two(0), two(2)
	if len(s)-at < 4+8*n {
		return nil, api.ErrMore
	}
	covered, e := cover.Get(s, at+offset)
	if e != api.OK {
		return nil, e
	}
	if len(covered) != n {
		return nil, api.ErrForm
	}
	l := ofGlyphs(covered...)
	for i := range 4 * n {
		if o := two(4 + 2*i); o != 0 {
			x, e := modelStair(s, at+o)
			if e != api.OK {
				return nil, e
			}
			l[i/4].Stairs[i%4] = x
		}
	}
	return l, api.OK
}

// modelPut writes the stairs behind all else, and tells at the end whether an offset was too great.
func modelPut(l []api.Kern) (string, api.Errno) {
	if !modelRight(l) {
		return "", api.ErrArg
	}
	var covered []int
	for _, k := range l {
		covered = append(covered, k.Glyph)
	}
	coverage, _ := cover.Put(covered)
	offsets := []int{4 + 8*len(l), len(l)}
	var stairs strings.Builder
	for _, k := range l {
		for _, x := range k.Stairs {
			if len(x.Kerns) == 0 {
				offsets = append(offsets, 0)
				continue
			}
			offsets = append(offsets, 4+8*len(l)+len(coverage)+stairs.Len())
			stairs.WriteString(stored(x, "\x00\x00"))
		}
	}
	if slices.Max(offsets) > 65535 {
		return "", api.ErrLong
	}
	return words(offsets...) + coverage + stairs.String(), api.OK
}

// modelFind goes through the whole list.
func modelFind(l []api.Kern, g, corner, h int) int {
	at := slices.IndexFunc(l, func(k api.Kern) bool { return k.Glyph == g })
	if at < 0 || !modelRight(l) || corner < 0 || corner > 3 {
		return 0
	}
	return modelAt(l[at].Stairs[corner], h)
}

func checkIs(t *testing.T, x api.Stair, want bool) {
	t.Helper()
	if is := cutin.Is(x); is != want {
		t.Errorf("P15.1: Is(%v) is %v", x, is)
	}
}

func checkAt(t *testing.T, x api.Stair, h int) {
	t.Helper()
	if k, want := cutin.At(x, h), modelAt(x, h); k != want {
		t.Errorf("P15.1: At(%v, %d) is %d, not %d", x, h, k, want)
	}
}

// checkWrong tells that a stair isn't valid, and has no kern anywhere.
func checkWrong(t *testing.T, x api.Stair) {
	t.Helper()
	checkIs(t, x, false)
	for _, h := range append([]int{-2, -1, 0, 1, 2, 5, 100, 32767}, far...) {
		if k := cutin.At(x, h); k != 0 {
			t.Errorf("P15.1: At(%v, %d) is %d", x, h, k)
		}
	}
}

func checkRight(t *testing.T, l []api.Kern, want bool) {
	t.Helper()
	if is := cutin.Right(l); is != want {
		t.Errorf("P15.1: Right(%v, of %d) is %v", shortList(l), len(l), is)
	}
}

func checkFind(t *testing.T, l []api.Kern, g, corner, h int) {
	t.Helper()
	if k, want := cutin.Find(l, g, corner, h), modelFind(l, g, corner, h); k != want {
		t.Errorf("P15.4: Find(%v, of %d, %d, %d, %d) is %d, not %d", shortList(l), len(l), g, corner, h, k, want)
	}
}

// checkGet holds Get against the model, and tells its error.
func checkGet(t *testing.T, s string, at int) api.Errno {
	t.Helper()
	want, wantE := modelGet(s, at)
	l, e := cutin.Get(s, at)
	if !same(l, want) || e != wantE {
		t.Errorf("P15.2: Get(%q, of %d bytes, %d) is %v, of %d, %d, not %v, of %d, %d", shortText(s), len(s), at, shortList(l), len(l), e, shortList(want), len(want), wantE)
	}
	if e == api.OK && !cutin.Right(l) {
		t.Errorf("P15.5: what Get(%q, of %d bytes, %d) answers is not valid: %v", shortText(s), len(s), at, shortList(l))
	}
	return e
}

// wantGet is checkGet where the error is known too.
func wantGet(t *testing.T, s string, at int, want api.Errno) {
	t.Helper()
	if e := checkGet(t, s, at); e != want {
		t.Errorf("P15.2: Get(%q, of %d bytes, %d) is %d, not %d", shortText(s), len(s), at, e, want)
	}
}

// wantKerns is wantGet where all is right, and the kerns are known.
func wantKerns(t *testing.T, s string, at int, want []api.Kern) {
	t.Helper()
	if l, e := cutin.Get(s, at); !same(l, want) || e != api.OK {
		t.Errorf("P15.2: Get(%q, of %d bytes, %d) is %v, of %d, %d, not %v", shortText(s), len(s), at, shortList(l), len(l), e, shortList(want))
	}
	checkGet(t, s, at)
}

// checkPut holds Put against the model, and gets again what is put, by itself and within other bytes.
func checkPut(t *testing.T, l []api.Kern) api.Errno {
	t.Helper()
	before := clone(l)
	want, wantE := modelPut(l)
	s, e := cutin.Put(l)
	if s != want || e != wantE {
		t.Errorf("P15.3: Put(%v, of %d) is %q, of %d bytes, %d, not %q, of %d, %d", shortList(l), len(l), shortText(s), len(s), e, shortText(want), len(want), wantE)
	}
	if !same(l, before) {
		t.Errorf("R2: Put changed the kerns from %v to %v", shortList(before), shortList(l))
	}
	if e != api.OK {
		return e
	}
	for at, text := range []string{s, "\xff" + s + "\x01", "\x00\x02" + s + "\x00\x01\x00"} {
		if m, e := cutin.Get(text, at); !same(m, l) || e != api.OK {
			t.Errorf("P15.5: what Put(%v, of %d) writes is got at %d as %v, of %d, %d", shortList(l), len(l), at, shortList(m), len(m), e)
		}
	}
	return e
}

// wantPut is checkPut where the error is known too.
func wantPut(t *testing.T, l []api.Kern, want api.Errno) {
	t.Helper()
	if e := checkPut(t, l); e != want {
		t.Errorf("P15.3: Put(%v, of %d) is %d, not %d", shortList(l), len(l), e, want)
	}
}

// validStairs are stairs that are.
func validStairs() []api.Stair {
	return []api.Stair{
		{}, {Heights: []int{}}, {Kerns: []int{}}, {Heights: []int{}, Kerns: []int{}},
		stair(0), stair(7), stair(-1), stair(-32768), stair(32767), {Heights: []int{}, Kerns: []int{5}},
		stair(-5, 100, 7), stair(1, -10, -2, 20, 3, 300, -4), stair(0, 0, 0), stair(5, -1, 5, 0, 5, 1, 5), stair(-32768, -32768, 32767), stair(32767, 32767, -32768),
		stair(1, -32768, 2, 32767, 3), stair(1, -32768, 2, -32767, 3), stair(1, 32766, 2, 32767, 3), stair(0, 5, 1, 6, 0),
		steps(2, -3, 1), steps(3, 0, 5), steps(63, -31, 1), steps(64, -32, 1), steps(64, -32768, 1040), steps(64, 32704, 1), steps(64, -32768, 1), steps(64, 0, 500),
	}
}

// wrongStairs are stairs that are not valid.
func wrongStairs() []api.Stair {
	l := []api.Stair{
		{Heights: []int{1}}, {Heights: []int{1, 2}}, {Heights: []int{1}, Kerns: []int{}}, {Heights: []int{1}, Kerns: []int{1}}, {Heights: []int{1, 2}, Kerns: []int{1, 2}}, {Heights: []int{1}, Kerns: []int{1, 2, 3}}, {Heights: []int{1, 2}, Kerns: []int{1}}, {Heights: []int{1, 2}, Kerns: []int{1, 2, 3, 4}},
		{Kerns: []int{1, 2}}, {Heights: []int{}, Kerns: []int{1, 2}}, {Kerns: []int{1, 2, 3}}, {Heights: make([]int, 64)}, {Kerns: make([]int, 64)}, {Kerns: make([]int, 65)},
		stair(1, 2, 2, 2, 3), stair(1, 2, 2, 1, 3), stair(1, 0, 2, -1, 3), stair(1, 32767, 2, -32768, 3), stair(1, -1, 1, -1, 1), stair(0, 1, 0, 2, 0, 2, 0), stair(0, 1, 0, 1, 0, 2, 0), stair(0, 1, 0, 3, 0, 2, 0), stair(0, 2, 0, 1, 0, 3, 0), stair(0, 2, 0, 3, 0, 1, 0),
		stair(32768), stair(-32769), stair(65535), stair(40000), stair(1, 32768, 2), stair(1, -32769, 2), stair(32768, 1, 0), stair(0, 1, -32769),
		steps(65, -32, 1), steps(65, 0, 500), steps(66, 0, 1), steps(128, 0, 1), steps(1000, 0, 1), steps(65536, -32768, 1), {Heights: make([]int, 65), Kerns: make([]int, 66)}, {Heights: make([]int, 64), Kerns: make([]int, 65)},
	}
	x, y := steps(64, -32, 1), steps(64, -32, 1)
	x.Kerns, y.Kerns = x.Kerns[:64], append(y.Kerns, 1)
	l = append(l, x, y)
	for _, n := range far {
		l = append(l, stair(n), stair(n, 1, 2), stair(1, 2, n), stair(1, n, 2), stair(1, n, 2, 5, 3), stair(1, 5, 2, n, 3), stair(1, 5, n, 6, 3), stair(n, n, n))
	}
	return l
}

// valid are lists that are.
func valid() [][]api.Kern {
	x, y, z := stair(-5, 100, 7), stair(9), steps(64, -32, 1)
	l := [][]api.Kern{
		nil, {}, ofGlyphs(0), ofGlyphs(65534), ofGlyphs(0, 65534), ofGlyphs(5, 6, 7, 8), ofGlyphs(1, 3, 300, 301),
		{kern(3, api.Stair{}, x, y, api.Stair{}), kern(8, y, api.Stair{}, api.Stair{}, api.Stair{})},
		{kern(0, x, y, z, x)}, {kern(65534, z, z, z, z)}, {kern(0, x, x, x, x), kern(1, y, y, y, y), kern(2, z, z, z, z)},
		every(40, 1000, 7, x), every(100, 0, 1, stair(1, 0, -1)), every(300, 65235, 1, y), full(30, z), full(7, stair(0)),
	}
	for corner := range 4 {
		l = append(l, []api.Kern{alone(9, corner, x)}, []api.Kern{empty(8), alone(9, corner, y), empty(10)}, []api.Kern{alone(8, corner, z), alone(65533, 3-corner, x)})
	}
	for _, x := range validStairs() {
		l = append(l, []api.Kern{kern(77, x, x, x, x)}, []api.Kern{kern(77, y, x, y, x), alone(78, 2, x)})
	}
	return l
}

// wrong are lists that are not valid.
func wrong() [][]api.Kern {
	x := stair(-5, 100, 7)
	l := [][]api.Kern{
		ofGlyphs(-1), ofGlyphs(65535), ofGlyphs(5, 5), ofGlyphs(0, 0), ofGlyphs(65534, 65534), ofGlyphs(6, 5), ofGlyphs(65534, 0), ofGlyphs(-1, 0), ofGlyphs(0, -1), ofGlyphs(65534, 65535), ofGlyphs(0, 65535), ofGlyphs(-2, -1),
		ofGlyphs(1, 2, 2), ofGlyphs(1, 1, 2), ofGlyphs(1, 3, 2), ofGlyphs(2, 3, 1), full(65536, api.Stair{}), every(10, 9, -1, x), every(40000, 0, 2, x), every(2, 65534, 1, x),
		{{}}, {{Glyph: 1}}, {kern(1, x)}, {kern(1, x, x, x)}, {kern(1, x, x, x, x, x)}, {kern(1, make([]api.Stair, 3)...)}, {kern(1, make([]api.Stair, 5)...)}, {kern(1, make([]api.Stair, 8)...)}, {{Glyph: 1, Stairs: []api.Stair{}}}, make([]api.Kern, 2), make([]api.Kern, 70000),
	}
	for _, n := range far {
		l = append(l, ofGlyphs(n), ofGlyphs(n, 5), ofGlyphs(5, n), ofGlyphs(4, n, 6), []api.Kern{alone(n, 0, x)})
	}
	for i, x := range wrongStairs() {
		l = append(l, []api.Kern{alone(1, i%4, x)}, []api.Kern{empty(0), alone(1, i%4, x)}, []api.Kern{alone(1, i%4, x), empty(2)})
	}
	return l
}

func TestIsOfValidStairs(t *testing.T) {
	for _, x := range validStairs() {
		checkIs(t, x, true)
	}
	for n := range 70 {
		for _, x := range []api.Stair{steps(n, -32768, 1), steps(n, 0, 300), steps(n, 32768-n, 1)} {
			checkIs(t, x, n <= 64)
		}
	}
}

func TestStairsThatAreNotValid(t *testing.T) {
	for _, x := range wrongStairs() {
		checkWrong(t, x)
	}
}

func TestIsOfNumbersOfKerns(t *testing.T) {
	for n := range 67 {
		for m := range 69 {
			x := api.Stair{Heights: steps(n, 0, 1).Heights, Kerns: make([]int, m)}
			checkIs(t, x, m == n+1 && n <= 64 || m == 0 && n == 0)
		}
	}
}

func TestIsOfEachNumber(t *testing.T) {
	for n := -70000; n < 70000; n++ {
		is := n >= -32768 && n <= 32767
		checkIs(t, stair(n), is)
		checkIs(t, stair(1, n, 2), is)
		checkIs(t, stair(n, 3, 2), is)
		checkIs(t, stair(2, 3, n), is)
		checkIs(t, stair(1, n, 2, 100, 3), is && n < 100)
		checkIs(t, stair(1, 100, 2, n, 3), is && n > 100)
		checkIs(t, stair(1, 100, 2, n, 3, 102, 4), n == 101)
	}
}

func TestOneWrongNumberAtEachPlace(t *testing.T) {
	for _, n := range []int{1, 2, 3, 20, 63, 64} {
		right := steps(n, -200, 7)
		checkIs(t, right, true)
		for i, h := range right.Heights {
			for _, v := range append([]int{-32769, -32768, -32767, 32766, 32767, 32768, h - 8, h - 7, h - 6, h, h + 6, h + 7, h + 8}, far...) {
				first, last := i == 0, i == n-1
				is := (first && v >= -32768 || v > h-7) && (last && v <= 32767 || v < h+7)
				x := higher(right, i, v)
				checkIs(t, x, is)
				for _, at := range []int{-32768, -201, -200, 0, h - 1, h, h + 1, v, 32767} {
					checkAt(t, x, at)
				}
				if !is {
					checkWrong(t, x)
				}
			}
		}
		for i := range right.Kerns {
			for _, v := range append([]int{-65535, -32769, -32768, -32767, -1, 0, 1, 32766, 32767, 32768, 65535}, far...) {
				x := kerned(right, i, v)
				is := v >= -32768 && v <= 32767
				checkIs(t, x, is)
				if !is {
					checkWrong(t, x)
				}
			}
		}
	}
}

// Each of the heights is more than the one before, whatever pair it is of.
func TestHeightsThatAreEqualOrFall(t *testing.T) {
	for n := 2; n <= 64; n++ {
		right := steps(n, 0, 3)
		for i := 1; i < n; i++ {
			before := right.Heights[i-1]
			checkIs(t, higher(right, i, before), false)
			checkIs(t, higher(right, i, before-1), false)
			checkIs(t, higher(right, i, before+1), true)
			checkIs(t, higher(right, i-1, before+3), false)
			checkIs(t, higher(right, i-1, before+2), true)
		}
	}
}

func TestAtOfKnownStairs(t *testing.T) {
	for _, k := range []struct {
		x       api.Stair
		h, want int
	}{
		{stair(-5, 100, 7), 99, -5}, {stair(-5, 100, 7), 100, 7}, {stair(-5, 100, 7), 101, 7}, {stair(-5, 100, 7), math.MinInt, -5}, {stair(-5, 100, 7), math.MaxInt, 7},
		{stair(9), math.MinInt, 9}, {stair(9), 0, 9}, {stair(9), math.MaxInt, 9}, {api.Stair{}, 0, 0}, {api.Stair{}, math.MinInt, 0}, {api.Stair{}, math.MaxInt, 0},
		{stair(1, -10, -2, 20, 3, 300, -4), -11, 1}, {stair(1, -10, -2, 20, 3, 300, -4), -10, -2}, {stair(1, -10, -2, 20, 3, 300, -4), 19, -2}, {stair(1, -10, -2, 20, 3, 300, -4), 20, 3}, {stair(1, -10, -2, 20, 3, 300, -4), 299, 3}, {stair(1, -10, -2, 20, 3, 300, -4), 300, -4},
		{stair(1, -32768, 2), -32769, 1}, {stair(1, -32768, 2), -32768, 2}, {stair(1, 32767, 2), 32766, 1}, {stair(1, 32767, 2), 32767, 2}, {stair(1, 0, 2), 65536, 2}, {stair(1, 0, 2), -65536, 1}, {stair(1, 0, 2), -1 << 63, 1}, {stair(1, 5, 2), 1<<32 + 4, 2}, {stair(1, 5, 2), -1<<32 + 6, 1},
	} {
		if n := cutin.At(k.x, k.h); n != k.want {
			t.Errorf("P15.1: At(%v, %d) is %d, not %d", k.x, k.h, n, k.want)
		}
	}
}

func TestAtAroundEachHeight(t *testing.T) {
	stairs := validStairs()
	for n := range 67 {
		stairs = append(stairs, steps(n, -100, 3), steps(n, -20, 1), steps(n, 1000, 450))
	}
	for _, x := range stairs {
		heights := append([]int{-65536, -32770, -32769, -32768, -32767, -1, 0, 1, 32766, 32767, 32768, 65535, 65536}, far...)
		for _, h := range x.Heights {
			heights = append(heights, h-1, h, h+1, h-65536, h+65536, h-1<<32, h+1<<32)
		}
		for _, h := range heights {
			checkAt(t, x, h)
		}
	}
}

// Between two heights the kern is the same, and at a height it is the next one.
func TestAtIsConstantBetweenHeights(t *testing.T) {
	for _, x := range []api.Stair{stair(-5, 100, 7), stair(1, -10, -2, 20, 3, 300, -4), steps(64, -5000, 150), steps(63, -31, 1), stair(7), stair(0, 5, 0)} {
		i := 0
		for h := -33000; h < 33000; h++ {
			if i < len(x.Heights) && h == x.Heights[i] {
				i++
			}
			if k := cutin.At(x, h); k != x.Kerns[i] {
				t.Fatalf("P15.5: At(%v, %d) is %d, not %d", x, h, k, x.Kerns[i])
			}
		}
	}
}

func TestRandomStairs(t *testing.T) {
	random := source(151)
	right := 0
	for range 100000 {
		x := api.Stair{}
		h := random(30) - 40
		for range random(6) {
			h += random(15)
			x.Heights = append(x.Heights, h)
		}
		for range max(0, len(x.Heights)+1+[]int{0, 0, 0, 0, 1, -1}[random(6)]) {
			x.Kerns = append(x.Kerns, random(65700)-32800)
		}
		is := modelIs(x)
		if is {
			right++
		}
		checkIs(t, x, is)
		for range 4 {
			checkAt(t, x, random(100)-50)
		}
	}
	if right < 10000 || right > 90000 {
		t.Errorf("the test's stairs are wrong: %d are valid", right)
	}
}

func TestRightOfValidLists(t *testing.T) {
	for _, l := range append(valid(), full(65535, api.Stair{}), every(65535, 0, 1, stair(7)), every(32768, 0, 2, stair(7, 8, 9)), full(1000, steps(64, 0, 1))) {
		checkRight(t, l, true)
	}
}

func TestListsThatAreNotValid(t *testing.T) {
	for _, l := range wrong() {
		checkRight(t, l, false)
		wantPut(t, l, api.ErrArg)
		for _, g := range []int{math.MinInt, -1, 0, 1, 2, 5, 9, 65534, 65535, math.MaxInt} {
			for corner := range 4 {
				if k := cutin.Find(l, g, corner, 200); k != 0 {
					t.Errorf("P15.4: Find(%v, of %d, %d, %d, 200) is %d", shortList(l), len(l), g, corner, k)
				}
			}
		}
	}
}

func TestRightOfEachGlyph(t *testing.T) {
	x := stair(7)
	for g := -300; g < 66000; g++ {
		checkRight(t, []api.Kern{alone(g, 0, x)}, g >= 0 && g <= 65534)
		checkRight(t, []api.Kern{alone(g, 1, x), empty(65534)}, g >= 0 && g <= 65533)
		checkRight(t, []api.Kern{empty(0), alone(g, 2, x)}, g >= 1 && g <= 65534)
		checkRight(t, []api.Kern{empty(1000), alone(g, 3, x), empty(1002)}, g == 1001)
	}
}

func TestRightOfNumbersOfCorners(t *testing.T) {
	for n := range 20 {
		for _, x := range []api.Stair{{}, stair(7), stair(-5, 100, 7)} {
			k := kern(50, slices.Repeat([]api.Stair{x}, n)...)
			for i := range 5 {
				checkRight(t, []api.Kern{k}, n == 4)
				k.Glyph = 10 * i
				l := another(every(5, 0, 10, stair(9)), i, k)
				checkRight(t, l, n == 4)
				if (n == 4) != (checkPut(t, l) == api.OK) {
					t.Errorf("P15.3: Put of a kern with %d corners at %d", n, i)
				}
				if v := cutin.Find(l, 10*((i+1)%5), (i+1)%5%4, 0); (n == 4) != (v == 9) || n != 4 && v != 0 {
					t.Errorf("P15.4: Find with a kern of %d corners at %d is %d", n, i, v)
				}
			}
		}
	}
}

func TestOneWrongStairAtEachCorner(t *testing.T) {
	right := []api.Kern{kern(2, stair(1), stair(2), stair(3), stair(4)), empty(5), kern(6, stair(1), stair(2), stair(3), stair(4)), kern(9, steps(3, 0, 1), steps(64, 0, 1), stair(3), stair(4))}
	checkRight(t, right, true)
	wantPut(t, right, api.OK)
	for i := range right {
		for corner := range 4 {
			for _, x := range wrongStairs() {
				l := cornered(right, i, corner, x)
				checkRight(t, l, false)
				wantPut(t, l, api.ErrArg)
				for _, g := range []int{2, 6, 9} {
					for c := range 4 {
						if k := cutin.Find(l, g, c, 0); k != 0 {
							t.Errorf("P15.4: Find of %d at %d with the stair %v at the corner %d of the kern %d is %d", g, c, x, corner, i, k)
						}
					}
				}
			}
			for _, x := range validStairs() {
				l := cornered(right, i, corner, x)
				checkRight(t, l, true)
				wantPut(t, l, api.OK)
			}
		}
	}
}

func TestGetOfKnownTexts(t *testing.T) {
	x, y := stair(-5, 100, 7), stair(9)
	for _, k := range []struct {
		s    string
		want []api.Kern
	}{
		{"\x00\x04\x00\x00\x00\x01\x00\x00", nil},
		{"\x00\x04\x00\x00\x00\x02\x00\x00", nil},
		{words(12, 1, 0, 0, 0, 0, 1, 1, 9), ofGlyphs(9)},
		{"\x00\x0c\x00\x01\x00\x12\x00\x00\x00\x00\x00\x00\x00\x01\x00\x01\x00\x09\x00\x00\xff\xfe\x12\x34", []api.Kern{alone(9, 0, stair(-2))}},
		{"\x00\x0c\x00\x01\x00\x00\x00\x12\x00\x00\x00\x00\x00\x01\x00\x01\x00\x09\x00\x01\x01\x02\xff\xff\x80\x00\xff\xff\x7f\xff\xff\xff", []api.Kern{alone(9, 1, stair(-32768, 258, 32767))}},
		{words(12, 1, 0, 0, 18, 0, 1, 1, 9, 2, -3, 1, 4, 2, 10, 3, 20, 4, 30, 5), []api.Kern{alone(9, 2, stair(10, -3, 20, 4, 30))}},
		{words(12, 1, 0, 0, 0, 22, 2, 1, 9, 9, 0, 0, 5, 0), []api.Kern{alone(9, 3, stair(5))}},
		{words(20, 2, 0, 28, 42, 0, 48, 0, 0, 0, 1, 2, 3, 8, 1, 100, 0, -5, 0, 7, 0, 0, 9, 0, 0, 9, 0), []api.Kern{kern(3, api.Stair{}, x, y, api.Stair{}), alone(8, 0, y)}},
		// The stairs and the coverage table stand in any order, and stairs are shared.
		{words(40, 2, 34, 20, 20, 34, 20, 0, 34, 20, 1, 100, 0, -5, 0, 7, 0, 0, 9, 0, 1, 2, 3, 8), []api.Kern{kern(3, y, x, x, y), kern(8, x, api.Stair{}, y, x)}},
	} {
		for at, s := range []string{k.s, "\x00" + k.s + "\xff", "\xff\xff" + k.s + "\x00\x01\x02"} {
			wantKerns(t, s, at, k.want)
		}
	}
}

// table is of one glyph whose stair stands at one corner alone, behind the coverage table.
func table(corner int, stair string) string {
	offsets := make([]int, 4)
	offsets[corner] = 18
	return words(12, 1) + words(offsets...) + words(1, 1, 9) + stair
}

func TestGetOfEachNumber(t *testing.T) {
	for v := range 65536 {
		n := int(int16(v))
		for corner, s := range []string{words(0, v, 0xa5c3), words(1, v, 0xa5c3, 5, 1, 6, 2), words(1, 5, 0xa5c3, v, 0xffff, 6, 0), words(1, 5, 0, 6, 1, v, 2)} {
			want := []api.Stair{stair(n), stair(5, n, 6), stair(n, 5, 6), stair(6, 5, n)}[corner]
			if l, e := cutin.Get(table(corner, s), 0); !same(l, []api.Kern{alone(9, corner, want)}) || e != api.OK {
				t.Fatalf("P15.2: the number %d is read as %v, %d", n, l, e)
			}
		}
	}
}

func TestGetLeavesOutIgnoredBytes(t *testing.T) {
	x := steps(4, -50, 30)
	s := stored(x, "\x00\x00")
	for i := range 9 {
		for at := range 2 {
			for c := range 256 {
				other := with(s, 2+4*i+2+at, string([]byte{byte(c)}))
				if l, e := cutin.Get(table(c%4, other), 0); !same(l, []api.Kern{alone(9, c%4, x)}) || e != api.OK {
					t.Errorf("P15.2: with %d in an ignored byte of the number %d: %v, %d", c, i, l, e)
				}
			}
		}
	}
	for _, ignored := range []string{"\xff\xff", "\x80\x00", "\x00\x01", "ab"} {
		for _, x := range validStairs()[4:] {
			wantKerns(t, table(1, stored(x, ignored)), 0, []api.Kern{alone(9, 1, x)})
		}
	}
}

// texts are tables that can be read, with nothing behind them that isn't read.
func texts() []string {
	x, y := stored(stair(-5, 100, 7), "\x01\x02"), stored(stair(9), "\xff\xff")
	return []string{
		words(4, 0, 1, 0), words(4, 0, 2, 0),
		words(12, 1, 0, 0, 0, 0, 1, 1, 9), words(12, 1, 0, 0, 0, 0, 2, 1, 9, 9, 0),
		table(0, x), table(1, y), table(2, x), table(3, y), table(2, stored(steps(64, -32, 1), "\x00\x00")),
		words(12, 1, 18, 24, 18, 24, 1, 1, 9) + y + x,
		words(34, 1, 0, 12, 28, 0) + x + "\x00\x00" + y + words(1, 1, 9),
		words(20, 2, 0, 30, 44, 0, 50, 0, 0, 30, 2, 1, 8, 9, 0) + x + y + y,
	}
}

func TestGetAtEachOffset(t *testing.T) {
	for _, text := range texts() {
		for _, gap := range []string{"", "\x00", "\x00\x01", "\x00\x04\x00\x00\x00", "\xff\xff\xff\xff\xff\xff"} {
			s := gap + text + gap
			for at := -20; at < len(s)+20; at++ {
				e := checkGet(t, s, at)
				if at < 0 && e != api.ErrArg || at >= 0 && at > len(s)-4 && e != api.ErrMore || at == len(gap) && e != api.OK {
					t.Errorf("P15.2: Get at %d of %q is %d", at, s, e)
				}
			}
			for _, at := range append([]int{math.MaxInt - len(s), math.MaxInt - 3, math.MinInt + len(s), math.MaxInt - 65535, math.MaxInt - 65536}, far...) {
				want := api.ErrMore
				if at < 0 {
					want = api.ErrArg
				}
				wantGet(t, s, at, want)
			}
		}
	}
	long := strings.Repeat("\xff", 100001)
	for _, text := range texts() {
		wantGet(t, long+text, len(long), api.OK)
		wantGet(t, long+text+long, len(long), api.OK)
	}
}

func TestGetOfFewBytes(t *testing.T) {
	for _, b := range []string{"\x00", "\xff", "\x01", "\x04"} {
		for n := range 4 {
			for before := range 6 {
				s := strings.Repeat(b, before+n)
				wantGet(t, s, before, api.ErrMore)
				wantGet(t, s, -1, api.ErrArg)
				wantGet(t, s, math.MinInt, api.ErrArg)
				wantGet(t, s, math.MaxInt, api.ErrMore)
			}
		}
	}
	// With 4 bytes and no glyphs the coverage table is asked: here its format is nought.
	wantGet(t, "\x00\x00\x00\x00", 0, api.ErrForm)
	wantGet(t, "\x00\x04\x00\x00", 0, api.ErrMore)
	wantGet(t, "\x00\x00\x00\x01", 0, api.ErrMore)
}

func TestGetOfTextsOfEachLength(t *testing.T) {
	for _, text := range texts() {
		for _, tail := range []string{"\x00", "\xff"} {
			full := text + strings.Repeat(tail, 20)
			for size := range len(full) + 1 {
				want := api.ErrMore
				if size >= len(text) {
					want = api.OK
				}
				wantGet(t, full[:size], 0, want)
				checkGet(t, "\x00\x04"+full[:size], 2)
			}
		}
	}
}

// The offsets must be there to their last byte, wherever the coverage table stands, and whatever its error is.
func TestGetOfTextsThatEndAtTheOffsets(t *testing.T) {
	// Within them stands a coverage table of a wrong format, one of too few glyphs, and one whose glyphs fall.
	for _, coverage := range []string{words(3, 2, 5, 6), words(1, 1, 5), words(2, 1, 5, 5, 0), words(1, 2, 6, 5)} {
		for _, at := range []int{4, 5, 6, 7, 8, 9} {
			s := with(words(at, 2)+strings.Repeat("\x00", 16), at, coverage)
			for size := range len(s) {
				wantGet(t, s[:size], 0, api.ErrMore)
			}
			wantGet(t, s, 0, api.ErrForm)
			wantGet(t, s+"\x00", 0, api.ErrForm)
		}
	}
	// One that is right: its bytes are the offsets 256, 512, 1280 and 1536.
	s := words(11, 2) + strings.Repeat("\x00", 1538)
	s = with(s, 11, words(1, 2, 5, 6))
	for size := range len(s) {
		wantGet(t, s[:size], 0, api.ErrMore)
	}
	nought := stair(0)
	wantKerns(t, s, 0, []api.Kern{empty(5), kern(6, nought, nought, nought, nought)})
}

func TestGetOfGreatCounts(t *testing.T) {
	// At an odd place the bytes of a range of so many glyphs are the offsets 512, 256 and others, where noughts stand: stairs whose kern is nought.
	for _, n := range []int{3841, 4097, 4098, 8191, 8192, 16384, 32767, 32768, 65534, 65535} {
		s := words(5, n) + strings.Repeat("\x00", 8*n)
		s = with(s, 5, words(2, 1, 0, n-1, 0))
		l, e := cutin.Get(s, 0)
		if len(l) != n || e != api.OK || l[n-1].Glyph != n-1 || !sameStair(l[0].Stairs[1], stair(0)) || !sameStair(l[n-1].Stairs[1], api.Stair{}) {
			t.Errorf("P15.2: Get of %d glyphs is %v, of %d, %d", n, shortList(l), len(l), e)
		}
		wantGet(t, s, 0, api.OK)
		wantGet(t, "\x00"+s+"\x00", 1, api.OK)
		wantGet(t, s[:len(s)-1], 0, api.ErrMore)
		wantGet(t, s[:len(s)-8], 0, api.ErrMore)
		// One glyph more, and one less.
		wantGet(t, with(s, 11, words(n)), 0, api.ErrForm)
		wantGet(t, with(s, 11, words(n-2)), 0, api.ErrForm)
		// A stair of the last glyph's last corner is read too: its heights are noughts.
		last := with(s, len(s)-2, words(701))
		wantGet(t, with(last, 701, words(3)), 0, api.ErrForm)
		l, e = cutin.Get(with(last, 701, words(1)), 0)
		if e != api.OK || !sameStair(l[n-1].Stairs[3], stair(0, 0, 0)) {
			t.Errorf("P15.2: Get of %d glyphs, the last one with a stair, is %d", n, e)
		}
	}
	// So many offsets, and too few bytes.
	for _, n := range []int{1, 2, 255, 256, 16384, 65535} {
		for _, size := range []int{0, 1, 8*n - 4, 8*n - 1} {
			wantGet(t, words(0, n)+strings.Repeat("\x00", size), 0, api.ErrMore)
		}
		wantGet(t, words(0, n)+strings.Repeat("\x00", 8*n), 0, api.ErrForm)
	}
}

func TestGetOfEachCount(t *testing.T) {
	s := words(60, 3) + strings.Repeat("\x00\x00\x00\x00\x00\x32\x00\x00", 7) + words(1, 3, 7, 8, 9)
	s = with(s, 50, words(0, 5, 5))
	for n := range 65536 {
		want := api.ErrForm
		switch {
		case n == 3:
			want = api.OK
		case 4+8*n > len(s):
			want = api.ErrMore
		}
		wantGet(t, with(s, 2, words(n)), 0, want)
	}
}

func TestGetOfEachOffsetOfTheCoverageTable(t *testing.T) {
	for _, s := range []string{
		words(0, 1, 0, 0, 0, 0, 1, 1, 9, 2, 1, 4, 4, 0, 1, 0), words(0, 0, 0, 1, 0, 0, 2, 0, 0), words(0, 1, 12, 0, 0, 12, 0, 1, 1, 7, 1, 1),
		words(0, 2, 0, 0, 32, 0, 0, 0, 0, 32, 2, 1, 2, 3, 0, 3, 0, 0, 1, 2, 0, 9),
	} {
		for offset := range len(s) + 30 {
			other := with(s, 0, words(offset))
			e := checkGet(t, other, 0)
			if offset > len(s)-4 && e != api.ErrMore {
				t.Errorf("P15.2: an offset %d in %d bytes is %d", offset, len(s), e)
			}
			checkGet(t, "\x00\x01\x00"+other+"\x00\x00\x00", 3)
		}
		for _, offset := range []int{255, 256, 257, 32767, 32768, 32769, 65534, 65535} {
			wantGet(t, with(s, 0, words(offset)), 0, api.ErrMore)
		}
	}
}

// The offset is unsigned, and counts from the table's first byte.
func TestGetOfFarCoverageTables(t *testing.T) {
	for _, offset := range []int{18, 19, 20, 255, 256, 32767, 32768, 40000, 65531, 65534, 65535} {
		for _, before := range []int{0, 1, 3, 1000} {
			s := strings.Repeat("\x01", before) + words(offset, 1, 0, 12, 0, 0, 300, 0) + strings.Repeat("\x00", 70000)
			s = with(s, before+12, words(0, 300, 0))
			s = with(s, before+offset, words(1, 1, 77))
			wantKerns(t, s, before, []api.Kern{alone(77, 1, stair(300))})
			// The text ends ahead of the offset, or within the coverage table, or just behind it.
			for size := max(offset-1, 18); size < offset+6; size++ {
				wantGet(t, s[:before+size], before, api.ErrMore)
			}
			wantGet(t, s[:before+offset+6], before, api.OK)
		}
	}
}

// A coverage table that begins within the head.
func TestGetOfCoverageTableInHead(t *testing.T) {
	// At 0 the format is the offset, nought, which is none; at 1 it is the offset's low byte, and the count's high one: 256, which is none.
	for n := range 30 {
		wantGet(t, words(0, n)+strings.Repeat("\x00\x01", 130), 0, api.ErrForm)
		wantGet(t, words(1, n)+strings.Repeat("\x00\x01", 130), 0, api.ErrForm)
	}
	// At 2 the format is the count, and the first offset is how many glyphs are listed: one. There, at 1, 512 heights begin.
	s := words(2, 1, 1, 12, 0, 0, 0, 5, 6)
	wantGet(t, s, 0, api.ErrMore)
	wantGet(t, s+strings.Repeat("\x00", 5000), 0, api.ErrLong)
	// So it is with two glyphs, of one range.
	wantGet(t, words(2, 2, 1, 0, 1, 0, 0, 0, 0, 0)+strings.Repeat("\x00", 5000), 0, api.ErrLong)
}

func TestGetOfErrorsOfTheCoverageTable(t *testing.T) {
	for _, k := range []struct {
		coverage string
		want     api.Errno
	}{
		{words(1, 3, 4, 5, 6), api.OK}, {words(1, 3, 0, 1, 65534), api.OK}, {words(2, 1, 4, 6, 0), api.OK}, {words(2, 2, 4, 4, 0, 6, 7, 1), api.OK}, {words(2, 3, 4, 4, 0, 5, 5, 1, 6, 6, 2), api.OK}, {words(2, 1, 65532, 65534, 0), api.OK},
		{"", api.ErrMore}, {words(1), api.ErrMore}, {words(1, 3)[:3], api.ErrMore}, {words(9, 3)[:3], api.ErrMore}, {words(1, 3), api.ErrMore}, {words(1, 3, 4, 5), api.ErrMore}, {words(1, 3, 4, 5, 6)[:9], api.ErrMore}, {words(1, 4, 4, 5, 6), api.ErrMore}, {words(1, 65535, 4, 5, 6), api.ErrMore},
		{words(2, 1), api.ErrMore}, {words(2, 1, 4, 6), api.ErrMore}, {words(2, 1, 4, 6, 0)[:9], api.ErrMore}, {words(2, 2, 4, 6, 0), api.ErrMore}, {words(2, 65535, 4, 6, 0), api.ErrMore},
		{words(0, 3, 4, 5, 6), api.ErrForm}, {words(3, 3, 4, 5, 6), api.ErrForm}, {words(256, 3, 4, 5, 6), api.ErrForm}, {words(65535, 3, 4, 5, 6), api.ErrForm}, {words(0, 65535), api.ErrForm},
		{words(1, 3, 4, 4, 6), api.ErrForm}, {words(1, 3, 4, 5, 5), api.ErrForm}, {words(1, 3, 6, 5, 4), api.ErrForm}, {words(1, 3, 4, 5, 65535), api.ErrForm}, {words(1, 3, 65535, 5, 6), api.ErrForm},
		{words(2, 1, 6, 4, 0), api.ErrForm}, {words(2, 1, 4, 6, 1), api.ErrForm}, {words(2, 1, 65533, 65535, 0), api.ErrForm}, {words(2, 2, 4, 4, 0, 6, 7, 2), api.ErrForm}, {words(2, 2, 4, 4, 0, 4, 5, 1), api.ErrForm}, {words(2, 2, 6, 7, 0, 4, 4, 2), api.ErrForm},
		{words(1, 2, 4, 5), api.ErrForm}, {words(1, 4, 4, 5, 6, 7), api.ErrForm}, {words(1, 0), api.ErrForm}, {words(2, 0), api.ErrForm}, {words(2, 1, 4, 5, 0), api.ErrForm}, {words(2, 1, 4, 7, 0), api.ErrForm}, {words(2, 1, 0, 65534, 0), api.ErrForm},
	} {
		for _, ahead := range []string{"", "\x00", "abc"} {
			for _, between := range []string{"", "\x00", "\x00\x01\x00\x03\x00\x04\x00\x05\x00\x06"} {
				// Its error is told ahead of the error of a stair, here one that is missing and one whose heights fall.
				for _, offset := range []int{28, 65535, 34} {
					stairs := words(0, 7, 1, 2, 6, 0, 5, 0, 1, 0, 2, 0, 3, 0)
					s := ahead + words(28+len(stairs)+len(between), 3, 0, 28, 0, 0, 0, 0, offset, 0, 28, 28, 28, 28) + stairs + between + k.coverage
					want := k.want
					if want == api.OK && offset == 65535 {
						want = api.ErrMore
					} else if want == api.OK && offset == 34 {
						want = api.ErrForm
					}
					wantGet(t, s, len(ahead), want)
				}
			}
		}
	}
}

func TestGetOfOneGlyphMoreOrLess(t *testing.T) {
	for n := range 40 {
		var offsets, glyphs []int
		for i := range n {
			offsets = append(offsets, 0, 4+8*n, 0, (4+8*n)*(i%2))
		}
		for g := range n + 3 {
			for _, coverage := range []string{words(1, g) + words(glyphs...), words(2, 1, 0, g-1, 0)} {
				if coverage[1] == 2 && g == 0 {
					coverage = words(2, 0)
				}
				want := api.ErrForm
				if g == n {
					want = api.OK
				}
				wantGet(t, words(10+8*n, n)+words(offsets...)+words(0, 7, 7)+coverage, 0, want)
			}
			glyphs = append(glyphs, g)
		}
	}
}

func TestGetOfEachOffsetOfAStair(t *testing.T) {
	for _, text := range texts()[2:] {
		for _, s := range []string{text, text + words(0, 1, 1, 0, 5, 7)} {
			for place := 4; place < 12; place += 2 {
				for offset := range len(s) + 20 {
					other := with(s, place, words(offset))
					e := checkGet(t, other, 0)
					if offset > len(s)-6 && e != api.ErrMore {
						t.Errorf("P15.2: a stair's offset %d in %d bytes is %d", offset, len(s), e)
					}
					checkGet(t, "\x00\x01\x00"+other+"\x00\x00\x00", 3)
				}
				for _, offset := range []int{1000, 32767, 32768, 32769, 65534, 65535} {
					wantGet(t, with(s, place, words(offset)), 0, api.ErrMore)
				}
			}
		}
	}
}

// The offsets are unsigned, and count from the table's first byte.
func TestGetOfFarStairs(t *testing.T) {
	for _, offset := range []int{18, 19, 20, 255, 256, 32767, 32768, 40000, 65531, 65534, 65535} {
		for _, before := range []int{0, 1, 3, 1000} {
			for corner := range 4 {
				s := strings.Repeat("\x01", before) + table(corner, strings.Repeat("\x00", 70000))
				s = with(s, before+4+2*corner, words(offset))
				s = with(s, before+offset, words(1, -7, 1, 300, 2, 301, 3))
				wantKerns(t, s, before, []api.Kern{alone(9, corner, stair(300, -7, 301))})
				for size := max(offset-1, 18); size < offset+14; size++ {
					wantGet(t, s[:before+size], before, api.ErrMore)
				}
				wantGet(t, s[:before+offset+14], before, api.OK)
			}
		}
	}
}

// An offset of 0 is of no stair, one of 1 is of the stair that begins at the second byte.
func TestGetOfStairsInHead(t *testing.T) {
	// The number of heights is then the coverage table's offset's low byte, and the count's high one.
	s := words(256, 1, 1, 0, 0, 0) + strings.Repeat("\x00", 1000)
	s = with(s, 256, words(1, 1, 9))
	wantKerns(t, s, 0, []api.Kern{alone(9, 0, stair(256))})
	wantKerns(t, with(s, 4, words(0)), 0, ofGlyphs(9))
	wantKerns(t, with(s, 4, words(0, 0, 0, 1)), 0, []api.Kern{alone(9, 3, stair(256))})
	// At 2 it is the count: one height, which is the first offset; its kerns are the third one, and what stands behind the offsets.
	wantKerns(t, with(s, 4, words(2)), 0, []api.Kern{alone(9, 0, stair(0, 2, 0))})
	wantKerns(t, with(s, 4, words(2, 0, 2, 4)), 0, []api.Kern{kern(9, stair(2, 2, 0), api.Stair{}, stair(2, 2, 0), stair(0, 0, 0, 4, 0))})
}

func TestGetOfStairsOfEachLength(t *testing.T) {
	for n := range 70 {
		x := steps(n, -100, 3)
		for corner := range 4 {
			s := table(corner, stored(x, "\x7f\xff"))
			want := api.OK
			if n > 64 {
				want = api.ErrLong
			}
			wantGet(t, s, 0, want)
			wantGet(t, s+"\x00", 0, want)
			wantGet(t, "\xff"+s, 1, want)
			for size := 17; size < len(s); size++ {
				if size < 30 || size > len(s)-10 {
					wantGet(t, s[:size], 0, api.ErrMore)
				}
			}
			// Its heights are the same, or fall.
			wantGet(t, table(corner, stored(steps(n, 5, 0), "\x00\x00")), 0, []api.Errno{api.OK, api.ErrForm, api.ErrLong}[min(n/2, 1)+n/65])
			wantGet(t, table(corner, stored(steps(n, 500, -1), "\x00\x00")), 0, []api.Errno{api.OK, api.ErrForm, api.ErrLong}[min(n/2, 1)+n/65])
		}
	}
}

// A stair that is missing is told as that, whatever else is wrong, and one that is long ahead of heights that fall.
func TestGetErrorsOfAStairInOrder(t *testing.T) {
	for _, k := range []struct {
		stair string
		want  api.Errno
	}{
		{"", api.ErrMore}, {"\x00", api.ErrMore}, {words(0), api.ErrMore}, {words(0, 5), api.ErrMore}, {words(0, 5, 0)[:5], api.ErrMore}, {words(0, 5, 0), api.OK},
		{words(1, 5, 0), api.ErrMore}, {words(1, 5, 0, 1, 0, 2, 0)[:13], api.ErrMore}, {words(1, 5, 0, 1, 0, 2, 0), api.OK},
		{words(2, 6, 0, 5, 0, 1, 0, 2, 0, 3, 0), api.ErrForm}, {words(2, 6, 0, 5, 0, 1, 0, 2, 0, 3, 0)[:21], api.ErrMore}, {words(2, 6, 0, 5, 0), api.ErrMore}, {words(2, 5, 0, 5, 0, 1, 0, 2, 0, 3, 0), api.ErrForm}, {words(2, -5, 0, -5, 0, 1, 0, 2, 0, 3, 0), api.ErrForm},
		{words(2, 32767, 0, -32768, 0, 1, 0, 2, 0, 3, 0), api.ErrForm}, {words(2, -32768, 0, 32767, 0, 1, 0, 2, 0, 3, 0), api.OK}, {words(2, -1, 0, 0, 0, 1, 0, 2, 0, 3, 0), api.OK}, {words(2, 0, 0, -1, 0, 1, 0, 2, 0, 3, 0), api.ErrForm},
		{words(64) + strings.Repeat("\x00", 516), api.ErrForm}, {words(64) + strings.Repeat("\x00", 515), api.ErrMore},
		{words(65), api.ErrMore}, {words(65) + strings.Repeat("\x00", 523), api.ErrMore}, {words(65) + strings.Repeat("\x00", 524), api.ErrLong}, {stored(steps(65, 0, 1), "\x00\x00"), api.ErrLong}, {stored(steps(65, 0, 1), "\x00\x00")[:525], api.ErrMore}, {stored(steps(64, 0, 1), "\x00\x00"), api.OK},
		{words(128), api.ErrMore}, {words(256) + strings.Repeat("\x00", 2051), api.ErrMore}, {words(256) + strings.Repeat("\x00", 2052), api.ErrLong}, {words(32768) + strings.Repeat("\x00", 262147), api.ErrMore}, {words(32768) + strings.Repeat("\x00", 262148), api.ErrLong}, {words(65535), api.ErrMore}, {words(65535) + strings.Repeat("\x00", 524283), api.ErrMore}, {words(65535) + strings.Repeat("\x00", 524284), api.ErrLong},
	} {
		for corner := range 4 {
			wantGet(t, table(corner, k.stair), 0, k.want)
			wantGet(t, "\xff"+table(corner, k.stair), 1, k.want)
		}
	}
}

// Of two faults in different stairs the one of the first glyph, and of its first corner, is told.
func TestGetOfTwoFaults(t *testing.T) {
	// Behind the coverage table of three glyphs stand a right stair, one whose heights fall, and a long one.
	right, fall, long, missing := 38, 44, 66, 65535
	rest := words(2, 1, 7, 9, 0, 0, 5, 0, 2, 6, 0, 5, 0, 1, 0, 2, 0, 3, 0, 65) + strings.Repeat("\x00", 524)
	faults := map[int]api.Errno{fall: api.ErrForm, long: api.ErrLong, missing: api.ErrMore}
	for i := range 12 {
		for j := i + 1; j < 12; j++ {
			for first, want := range faults {
				for second := range faults {
					for _, other := range []int{0, right} {
						offsets := slices.Repeat([]int{other}, 12)
						offsets[i] = first
						wantGet(t, words(28, 3)+words(offsets...)+rest, 0, want)
						offsets[j] = second
						wantGet(t, words(28, 3)+words(offsets...)+rest, 0, want)
					}
				}
			}
		}
	}
}

func TestGetErrorsInOrder(t *testing.T) {
	// A negative offset, though the text is none.
	for _, s := range append(texts(), "", "\x00", words(12, 1), words(9, 9, 9, 9)) {
		for _, at := range []int{-1, -4, -65536, math.MinInt} {
			wantGet(t, s, at, api.ErrArg)
		}
	}
	// Offsets are missing, and the coverage table is wrong, or of another count: ErrMore.
	wantGet(t, words(4, 3, 3, 0, 5, 5), 0, api.ErrMore)
	wantGet(t, words(4, 3, 1, 1, 9, 9), 0, api.ErrMore)
	wantGet(t, words(0, 65535, 1, 1), 0, api.ErrMore)
	// The coverage table is missing, and its count could not be the offsets', and a stair is long, or falls: ErrMore.
	for _, offset := range []int{0, 14, 538} {
		stairs := words(65) + strings.Repeat("\x00", 522) + words(2, 6, 0, 5, 0, 1, 0, 2, 0, 3, 0)
		s := words(12+2+len(stairs), 1, offset, offset, 0, offset, 0) + stairs
		for _, coverage := range []string{"", "\x00", words(1), words(1, 2, 5), words(1, 65535, 5), words(2, 2, 5, 8, 0)} {
			wantGet(t, s+coverage, 0, api.ErrMore)
		}
		// It is wrong, or has another count, and a stair is long, or missing: ErrForm.
		for _, coverage := range []string{words(0, 1, 5), words(3, 1, 5), words(1, 0), words(1, 2, 5, 6), words(1, 2, 6, 5), words(2, 1, 5, 6, 0), words(2, 1, 6, 5, 0), words(1, 1, 65535)} {
			wantGet(t, s+coverage, 0, api.ErrForm)
			wantGet(t, with(s, 6, words(65535))+coverage, 0, api.ErrForm)
			wantGet(t, with(s, 4, words(65535))+coverage, 0, api.ErrForm)
		}
		// It is right: then the stairs are asked.
		wantGet(t, s+words(1, 1, 5), 0, map[int]api.Errno{0: api.OK, 14: api.ErrLong, 538: api.ErrForm}[offset])
		wantGet(t, with(s, 4, words(65535))+words(1, 1, 5), 0, api.ErrMore)
	}
	// The coverage table is wrong, and there are no glyphs.
	wantGet(t, words(4, 0, 3, 0), 0, api.ErrForm)
	wantGet(t, words(4, 0, 1, 2, 5), 0, api.ErrMore)
	wantGet(t, words(4, 0, 1, 1, 5), 0, api.ErrForm)
}

// randomTable is of a few glyphs, whose stairs are mostly right, and stand where their offsets tell.
func randomTable(random func(n int) int) string {
	n := random(3)
	body := words([]int{1, 2}[random(2)], random(3), random(3), random(4), random(6)/5)
	if random(2) == 0 {
		body = words(1, n, 3, 7)[:4+2*n]
	}
	places := []int{0, random(40)}
	for range random(4) {
		places = append(places, 4+8*n+len(body)+random(20)/18)
		heights := []int{0, 1, 2, 2, 3, 64, 65}[random(7)]
		body += stored(steps(heights, random(100)-50, random(12)-1), words(random(9)))
	}
	l := []int{4 + 8*n + 2*[]int{0, 0, 0, 0, 0, 1, -1}[random(7)], n}
	for range 4 * n {
		l = append(l, places[random(random(5)+1)%len(places)])
	}
	return words(l...) + body
}

func TestGetOfRandomTexts(t *testing.T) {
	random := source(152)
	right, told := 0, map[api.Errno]int{}
	for range 50000 {
		s := randomTable(random)
		e := checkGet(t, s[:len(s)-min(len(s), random(3)*random(4))], 0)
		told[e]++
		if l, e := cutin.Get(s, 0); e == api.OK && len(l) > 0 {
			right++
		}
	}
	if right < 2000 || told[api.ErrMore] < 2000 || told[api.ErrForm] < 2000 || told[api.ErrLong] < 100 {
		t.Errorf("the test's texts are wrong: %d can be read, of %v", right, told)
	}
}

func TestPutOfKnownLists(t *testing.T) {
	x, y := stair(-5, 100, 7), stair(9)
	for _, k := range []struct {
		l    []api.Kern
		want string
	}{
		{nil, "\x00\x04\x00\x00\x00\x01\x00\x00"},
		{[]api.Kern{}, "\x00\x04\x00\x00\x00\x01\x00\x00"},
		{ofGlyphs(9), words(12, 1, 0, 0, 0, 0, 1, 1, 9)},
		{ofGlyphs(5, 6, 7), words(28, 3, 0, 0, 0, 0, 0, 0, 0, 0, 0, 0, 0, 0, 1, 3, 5, 6, 7)},
		{ofGlyphs(5, 6, 7, 8), words(36, 4, 0, 0, 0, 0, 0, 0, 0, 0, 0, 0, 0, 0, 0, 0, 0, 0, 2, 1, 5, 8, 0)},
		{[]api.Kern{alone(9, 0, stair(-2))}, "\x00\x0c\x00\x01\x00\x12\x00\x00\x00\x00\x00\x00\x00\x01\x00\x01\x00\x09\x00\x00\xff\xfe\x00\x00"},
		{[]api.Kern{alone(9, 1, stair(-32768, 258, 32767))}, "\x00\x0c\x00\x01\x00\x00\x00\x12\x00\x00\x00\x00\x00\x01\x00\x01\x00\x09\x00\x01\x01\x02\x00\x00\x80\x00\x00\x00\x7f\xff\x00\x00"},
		{[]api.Kern{alone(9, 2, stair(10, -3, 20, 4, 30))}, words(12, 1, 0, 0, 18, 0, 1, 1, 9, 2, -3, 0, 4, 0, 10, 0, 20, 0, 30, 0)},
		{[]api.Kern{alone(65534, 3, y)}, words(12, 1, 0, 0, 0, 18, 1, 1, 65534, 0, 9, 0)},
		{[]api.Kern{kern(9, y, x, y, x)}, words(12, 1, 18, 24, 38, 44, 1, 1, 9, 0, 9, 0, 1, 100, 0, -5, 0, 7, 0, 0, 9, 0, 1, 100, 0, -5, 0, 7, 0)},
		{[]api.Kern{kern(3, api.Stair{}, x, y, api.Stair{}), alone(8, 0, y)}, words(20, 2, 0, 28, 42, 0, 48, 0, 0, 0, 1, 2, 3, 8, 1, 100, 0, -5, 0, 7, 0, 0, 9, 0, 0, 9, 0)},
		{[]api.Kern{alone(3, 3, stair(0)), alone(4, 0, stair(1))}, words(20, 2, 0, 0, 0, 28, 34, 0, 0, 0, 1, 2, 3, 4, 0, 0, 0, 0, 1, 0)},
	} {
		if s, e := cutin.Put(k.l); s != k.want || e != api.OK {
			t.Errorf("P15.3: Put(%v) is %q, %d, not %q", k.l, s, e, k.want)
		}
		wantPut(t, k.l, api.OK)
	}
}

func TestPutOfValidLists(t *testing.T) {
	for _, l := range valid() {
		wantPut(t, l, api.OK)
	}
	for n := range 120 {
		wantPut(t, every(n, 10, 1, stair(5, 6, 7)), api.OK)
		wantPut(t, every(n, 10, 3, stair(5)), api.OK)
	}
}

func TestPutOfEachNumber(t *testing.T) {
	for v := -32768; v <= 32767; v++ {
		if s, e := cutin.Put([]api.Kern{alone(9, 1, stair(v))}); s != words(12, 1, 0, 18, 0, 0, 1, 1, 9, 0, v, 0) || e != api.OK {
			t.Fatalf("P15.3: Put of the kern %d is %q, %d", v, s, e)
		}
		if s, e := cutin.Put([]api.Kern{alone(9, 2, stair(1, v, -1))}); s != words(12, 1, 0, 0, 18, 0, 1, 1, 9, 1, v, 0, 1, 0, -1, 0) || e != api.OK {
			t.Fatalf("P15.3: Put of the height %d is %q, %d", v, s, e)
		}
	}
}

func TestPutWritesNoughtsInIgnoredBytes(t *testing.T) {
	x := stair(-1, -9, -1, -8, -1)
	s, e := cutin.Put(full(20, x))
	stairs := strings.Repeat(words(2, -9, 0, -8, 0, -1, 0, -1, 0, -1, 0), 80)
	if e != api.OK || !strings.HasSuffix(s, stairs) || len(s) != 4+8*20+10+len(stairs) {
		t.Errorf("P15.3: Put of 20 kerns is %q, of %d bytes, %d", shortText(s), len(s), e)
	}
}

// reaching is of n kerns, of which the last stair's offset is so: m stairs stand ahead of it, in which there are as many heights as that takes. It is nil where none can be.
func reaching(n, step, m, offset int) []api.Kern {
	l := every(n, 0, step, api.Stair{})
	var covered []int
	for _, k := range l {
		covered = append(covered, k.Glyph)
	}
	coverage, _ := cover.Put(covered)
	bytes := offset - 4 - 8*n - len(coverage) - 6*m
	if bytes < 0 || bytes%8 != 0 || bytes/8 > 64*m || m >= 4*n {
		return nil
	}
	heights := bytes / 8
	for i := range m {
		l[i/4].Stairs[i%4] = steps(min(64, heights), -100, 3)
		heights -= min(64, heights)
	}
	l[n-1].Stairs[3] = steps(64, 0, 1)
	return l
}

func TestPutOfTheGreatestOffsets(t *testing.T) {
	tried := map[int]int{}
	for _, n := range []int{33, 34, 100, 1000} {
		for _, step := range []int{1, 2} {
			for m := 126; m < 134; m++ {
				for offset := 65520; offset < 65550; offset++ {
					l := reaching(n, step, m, offset)
					if l == nil {
						continue
					}
					tried[offset]++
					want := api.OK
					if offset > 65535 {
						want = api.ErrLong
					}
					wantPut(t, l, want)
				}
			}
		}
	}
	for offset := 65520; offset < 65550; offset += 2 {
		if tried[offset] == 0 {
			t.Errorf("the test tries no list whose last offset is %d", offset)
		}
	}
}

// A stair without kerns needs no offset, wherever it stands, and the last one may end where no offset reaches.
func TestPutOfWhatFollowsTheGreatestOffset(t *testing.T) {
	l := reaching(40, 1, 128, 65534)
	if s, e := cutin.Put(l); e != api.OK || len(s) != 65534+6+8*64 || s[4+8*40-2:4+8*40] != "\xff\xfe" {
		t.Errorf("P15.3: Put of the greatest list is of %d bytes, %d", len(s), e)
	}
	l[39].Stairs = []api.Stair{steps(64, 0, 1), {}, {}, {}}
	wantPut(t, l, api.OK)
	for corner := 1; corner < 4; corner++ {
		wantPut(t, cornered(l, 39, corner, stair(0)), api.ErrLong)
		wantPut(t, cornered(l, 39, corner, stair(1, 2, 3)), api.ErrLong)
		wantPut(t, cornered(l, 39, corner, steps(64, 0, 1)), api.ErrLong)
		wantPut(t, cornered(l, 39, corner, stair(0, 5, 32768)), api.ErrArg)
	}
	// One height more in any stair, or one stair more ahead of the last one, is too much.
	for i := range 40 {
		for corner := range 4 {
			if n := len(l[i].Stairs[corner].Heights); n < 64 && i < 32 || len(l[i].Stairs[corner].Kerns) == 0 && i < 39 {
				wantPut(t, cornered(l, i, corner, steps(n+1, -100, 3)), api.ErrLong)
			}
		}
	}
}

func TestPutOfLongLists(t *testing.T) {
	for _, n := range []int{8188, 8189, 8190, 8191, 8192, 8193, 16383, 65535} {
		fits := func(is bool) api.Errno {
			if is {
				return api.OK
			}
			return api.ErrLong
		}
		none := every(n, 0, 1, api.Stair{})
		wantPut(t, none, fits(n <= 8191))
		wantPut(t, every(n, 65535-n, 1, api.Stair{}), fits(n <= 8191))
		if 3*n < 65535 {
			wantPut(t, every(n, 0, 3, api.Stair{}), fits(n <= 8191))
			wantPut(t, another(every(n, 0, 3, api.Stair{}), 0, alone(0, 0, stair(7))), api.ErrLong)
		}
		// With one stair, whose offset is the coverage table's end: that is a range's.
		for _, i := range []int{0, n / 2, n - 1} {
			for corner := range 4 {
				wantPut(t, another(none, i, alone(i, corner, stair(7))), fits(n <= 8190))
				wantPut(t, another(none, i, alone(i, corner, steps(64, 0, 1))), fits(n <= 8190))
			}
		}
		wantPut(t, another(none, 5, kern(5, stair(1), api.Stair{}, stair(2), api.Stair{})), fits(n <= 8189))
		// A list that is too long and not valid is told as not valid, wherever it is not.
		for _, i := range []int{0, n / 2, 8191, 8192, n - 1} {
			if i < n {
				wantPut(t, another(none, i, alone(i, i%4, stair(32768))), api.ErrArg)
				wantPut(t, another(none, i, empty(-1)), api.ErrArg)
				wantPut(t, another(none, i, empty(65535)), api.ErrArg)
				wantPut(t, another(none, i, kern(i)), api.ErrArg)
			}
		}
	}
	wantPut(t, every(65536, 0, 1, api.Stair{}), api.ErrArg)
	wantPut(t, full(65535, stair(1, 2, 3)), api.ErrLong)
	s, e := cutin.Put(every(8191, 0, 1, api.Stair{}))
	if len(s) != 65532+10 || s[:4] != words(65532, 8191) || e != api.OK {
		t.Errorf("P15.3: Put of 8191 kerns is %q, of %d bytes, %d", shortText(s), len(s), e)
	}
}

// Few kerns with great stairs are too long too.
func TestPutOfGreatStairs(t *testing.T) {
	for n := 25; n < 45; n++ {
		l := full(n, steps(64, -32, 1))
		want := api.OK
		if 4+8*n+10+518*(4*n-1) > 65535 {
			want = api.ErrLong
		}
		wantPut(t, l, want)
	}
}

func randomStair(random func(n int) int) api.Stair {
	if random(3) == 0 {
		return api.Stair{}
	}
	n := random(5) * random(5) * random(5)
	x := steps(n, random(1000)-32768, 1+random(1000))
	for i := range x.Kerns {
		x.Kerns[i] = random(65536) - 32768
	}
	return x
}

func randomKerns(random func(n int) int) []api.Kern {
	var l []api.Kern
	g := random(3)
	for range random(12) {
		l = append(l, kern(g, randomStair(random), randomStair(random), randomStair(random), randomStair(random)))
		g += 1 + random(2)*random(4000)
	}
	return l
}

func TestPutOfRandomLists(t *testing.T) {
	random := source(153)
	for range 2000 {
		l := randomKerns(random)
		s, e := cutin.Put(l)
		m, f := cutin.Get(s, 0)
		if e != api.OK || f != api.OK || !same(l, m) {
			t.Errorf("P15.5: put and got: %v, %d, %d, not %v", shortList(m), e, f, shortList(l))
		}
		checkPut(t, l)
		for range 10 {
			checkFind(t, l, random(30), random(4), random(66000)-33000)
		}
	}
}

func TestFindOfKnownKerns(t *testing.T) {
	l := []api.Kern{kern(3, api.Stair{}, stair(-5, 100, 7), stair(9), api.Stair{}), kern(8, stair(1), stair(2), stair(3), stair(4))}
	for _, k := range []struct{ g, corner, h, want int }{
		{3, api.TopLeft, 99, -5}, {3, api.TopLeft, 100, 7}, {3, api.TopLeft, 101, 7}, {3, api.TopLeft, math.MinInt, -5}, {3, api.TopLeft, math.MaxInt, 7}, {3, api.BottomRight, 0, 9}, {3, api.TopRight, 0, 0}, {3, api.BottomLeft, 100, 0},
		{8, api.TopRight, 5, 1}, {8, api.TopLeft, 5, 2}, {8, api.BottomRight, 5, 3}, {8, api.BottomLeft, 5, 4}, {8, 0, 5, 1}, {8, 1, 5, 2}, {8, 2, 5, 3}, {8, 3, 5, 4}, {8, 4, 5, 0}, {8, -1, 5, 0}, {8, 5, 5, 0}, {8, -4, 5, 0},
		{2, 1, 5, 0}, {4, 1, 5, 0}, {7, 1, 5, 0}, {9, 1, 5, 0}, {-1, 1, 5, 0}, {65535, 1, 5, 0}, {65539, 1, 5, 0}, {1<<32 + 8, 1, 5, 0}, {8, 1 << 32, 5, 0}, {8, 1<<32 + 1, 5, 0}, {8, -1<<63 + 1, 5, 0},
	} {
		if n := cutin.Find(l, k.g, k.corner, k.h); n != k.want {
			t.Errorf("P15.4: Find(%d, %d, %d) is %d, not %d", k.g, k.corner, k.h, n, k.want)
		}
	}
}

func TestFindOfEachGlyph(t *testing.T) {
	for _, l := range valid() {
		for i, k := range l {
			for corner, x := range k.Stairs {
				heights := []int{math.MinInt, -32768, 0, 32767, math.MaxInt}
				if i < 3 {
					for _, h := range x.Heights[:min(len(x.Heights), 8)] {
						heights = append(heights, h-1, h, h+1)
					}
				}
				for _, h := range heights {
					checkFind(t, l, k.Glyph, corner, h)
					if n := cutin.Find(l, k.Glyph, corner, h); n != cutin.At(x, h) {
						t.Errorf("P15.4: Find(%v, of %d, %d, %d, %d) is %d", shortList(l), len(l), k.Glyph, corner, h, n)
					}
				}
			}
		}
		for _, corner := range append([]int{-2, -1, 0, 1, 2, 3, 4, 5, 8}, far...) {
			for _, g := range []int{-1, 0, 1, 9, 77, 1000, 65534, 65535} {
				checkFind(t, l, g, corner, 7)
			}
		}
		for _, g := range append([]int{-1, 0, 1, 2, 8, 9, 10, 65533, 65534, 65535}, far...) {
			checkFind(t, l, g, 1, 7)
		}
	}
}

func TestFindInGreatLists(t *testing.T) {
	for _, l := range [][]api.Kern{every(65535, 0, 1, stair(-5, 100, 7)), every(32768, 0, 2, stair(9)), every(32767, 1, 2, stair(9))} {
		for _, g := range []int{math.MinInt, -1, 0, 1, 2, 3, 32766, 32767, 32768, 40000, 40001, 65531, 65532, 65533, 65534, 65535, 65536, math.MaxInt} {
			for corner := range 4 {
				checkFind(t, l, g, corner, 99)
				checkFind(t, l, g, corner, 100)
			}
		}
	}
}

func TestFindOfMissingGlyphs(t *testing.T) {
	l := []api.Kern{kern(10, stair(1), stair(1), stair(1), stair(1)), kern(20, stair(2), stair(2), stair(2), stair(2)), kern(30, stair(3), stair(3), stair(3), stair(3))}
	for g := -100; g < 200; g++ {
		want := 0
		if g == 10 || g == 20 || g == 30 {
			want = g / 10
		}
		for corner := range 4 {
			if k := cutin.Find(l, g, corner, 0); k != want {
				t.Errorf("P15.4: Find of %d at %d is %d", g, corner, k)
			}
			for _, none := range [][]api.Kern{nil, {}} {
				if k := cutin.Find(none, g, corner, 0); k != 0 {
					t.Errorf("P15.4: Find of %d in no kerns is %d", g, k)
				}
			}
		}
	}
}

// What is got is valid, and each of its stairs tells the kerns that stand in the text.
func TestFindInWhatIsGot(t *testing.T) {
	for _, s := range texts() {
		l, e := cutin.Get(s, 0)
		if e != api.OK || !cutin.Right(l) {
			t.Fatalf("P15.5: Get(%q, 0) is %v, %d", s, l, e)
		}
		for g := range 100 {
			for corner := range 4 {
				for _, h := range []int{-33, -32, 0, 31, 32, 99, 100, 101} {
					checkFind(t, l, g, corner, h)
				}
			}
		}
	}
}

func TestArgumentsStay(t *testing.T) {
	x := steps(20, 0, 5)
	whole := append(full(20, x), every(3, 1, 2, stair(7))...)
	for _, l := range [][]api.Kern{whole[:20], whole, ofGlyphs(6, 5), {alone(5, 0, stair(40000))}, every(9000, 0, 1, x), {kern(7, stair(1), x, stair(3), stair(1, 2, 3))}} {
		before := clone(l)
		cutin.Right(l)
		cutin.Find(l, 5, 0, 7)
		cutin.Find(l, 7, 1, 7)
		cutin.Put(l)
		for _, x := range l[0].Stairs {
			cutin.Is(x)
			cutin.At(x, 7)
		}
		if !same(l, before) {
			t.Errorf("R2: the kerns %v, of %d, were modified", shortList(before), len(before))
		}
	}
	if !same(whole[20:], every(3, 1, 2, stair(7))) {
		t.Errorf("R2: what lies behind a list was modified: %v", whole[20:])
	}
	// What lies behind a stair's heights and kerns stays too.
	numbers := []int{1, 2, 3, 4, 5, 6}
	y := api.Stair{Heights: numbers[:1], Kerns: numbers[2:4]}
	cutin.Put([]api.Kern{kern(1, y, y, y, y)})
	cutin.At(y, 1)
	if !slices.Equal(numbers, []int{1, 2, 3, 4, 5, 6}) {
		t.Errorf("R2: numbers behind a stair were modified: %v", numbers)
	}
}

// No two lists of an answer share memory, though their stairs are one in the text.
func TestAnswersShareNothing(t *testing.T) {
	s := words(20, 2, 28, 28, 42, 42, 42, 28, 0, 28, 1, 2, 3, 8, 1, 100, 0, -5, 0, 7, 0, 0, 9, 0)
	x, y := stair(-5, 100, 7), stair(9)
	want := []api.Kern{kern(3, x, x, y, y), kern(8, y, x, api.Stair{}, x)}
	wantKerns(t, s, 0, want)
	changes := []func(x *api.Stair){
		func(x *api.Stair) {
			for i := range x.Heights {
				x.Heights[i] = -77
			}
		},
		func(x *api.Stair) {
			for i := range x.Kerns {
				x.Kerns[i] = -77
			}
		},
		func(x *api.Stair) { _ = append(x.Heights, -77) },
		func(x *api.Stair) { _ = append(x.Kerns, -77) },
		func(x *api.Stair) { *x = stair(1, 2, 3) },
	}
	for i := range want {
		for corner := range want[i].Stairs {
			for n, change := range changes {
				l, _ := cutin.Get(s, 0)
				change(&l[i].Stairs[corner])
				_ = append(l[i].Stairs, stair(-77))
				changed := clone(want)
				change(&changed[i].Stairs[corner])
				if !same(l, changed) {
					t.Errorf("R2: the change %d of the stair %d of the kern %d: %v, not %v", n, corner, i, l, changed)
				}
			}
		}
	}
	wantKerns(t, s, 0, want)
}

func TestPutAnswersStay(t *testing.T) {
	l := full(5, stair(-5, 100, 7))
	put, _ := cutin.Put(l)
	again, _ := cutin.Put(l)
	for i := range l {
		l[i].Glyph = 7
		l[i].Stairs[2].Heights[0] = 3
	}
	cutin.Put(every(20, 0, 1, steps(64, 0, 1)))
	if want, _ := modelPut(full(5, stair(-5, 100, 7))); put != want || again != want {
		t.Errorf("R2: an answer changed with its list: %q", put)
	}
}

// The same question has the same answer, whatever was asked before.
func TestAnswersHangOnArgumentsAlone(t *testing.T) {
	random := source(154)
	known := []api.Kern{kern(3, api.Stair{}, stair(-5, 100, 7), stair(9), api.Stair{}), alone(8, 0, stair(9))}
	for range 200 {
		cutin.Put(randomKerns(random))
		cutin.Find(randomKerns(random), random(100), random(4), random(100))
		cutin.Get(words(random(20), random(3), 1, 1, 5, 6), 0)
		if k := cutin.Find(known, 3, 1, 99); k != -5 {
			t.Fatalf("R3: Find: %d", k)
		}
		wantPut(t, known, api.OK)
		wantGet(t, table(2, words(1, 5, 0, 6, 0, 7, 0)), 0, api.OK)
	}
}

// The heights and kerns of a font with twice as many units per em are twice as great: so they are read, written and found.
func TestTwiceAsManyUnits(t *testing.T) {
	for _, n := range []int{-16384, -5000, -1, 0, 1, 250, 8000, 16383} {
		once, _ := cutin.Put([]api.Kern{alone(3, 1, stair(n, n, -n-1))})
		twice, _ := cutin.Put([]api.Kern{alone(3, 1, stair(2*n, 2*n, -2*n-2))})
		l, e := cutin.Get(once, 0)
		m, f := cutin.Get(twice, 0)
		if e != api.OK || f != api.OK {
			t.Fatalf("T4: the number %d, twice: %d and %d", n, e, f)
		}
		for h := n - 3; h < n+3; h++ {
			if a, b := cutin.Find(l, 3, 1, h), cutin.Find(m, 3, 1, 2*h); b != 2*a {
				t.Errorf("T4: the number %d, at %d and twice: %d and %d", n, h, a, b)
			}
		}
	}
}
