package konst_test

import (
	"math"
	"slices"
	"strings"
	"testing"

	"vinculum/api"
	"vinculum/konst"
)

// textBytes is how many bytes the constants of a font have.
const textBytes = 214

// allNames are those of P13.2, in order.
const allNames = "ScriptPercentScaleDown ScriptScriptPercentScaleDown DelimitedSubFormulaMinHeight DisplayOperatorMinHeight MathLeading AxisHeight AccentBaseHeight FlattenedAccentBaseHeight SubscriptShiftDown SubscriptTopMax SubscriptBaselineDropMin SuperscriptShiftUp SuperscriptShiftUpCramped SuperscriptBottomMin SuperscriptBaselineDropMax SubSuperscriptGapMin SuperscriptBottomMaxWithSubscript SpaceAfterScript UpperLimitGapMin UpperLimitBaselineRiseMin LowerLimitGapMin LowerLimitBaselineDropMin StackTopShiftUp StackTopDisplayStyleShiftUp StackBottomShiftDown StackBottomDisplayStyleShiftDown StackGapMin StackDisplayStyleGapMin StretchStackTopShiftUp StretchStackBottomShiftDown StretchStackGapAboveMin StretchStackGapBelowMin FractionNumeratorShiftUp FractionNumeratorDisplayStyleShiftUp FractionDenominatorShiftDown FractionDenominatorDisplayStyleShiftDown FractionNumeratorGapMin FractionNumDisplayStyleGapMin FractionRuleThickness FractionDenominatorGapMin FractionDenomDisplayStyleGapMin SkewedFractionHorizontalGap SkewedFractionVerticalGap OverbarVerticalGap OverbarRuleThickness OverbarExtraAscender UnderbarVerticalGap UnderbarRuleThickness UnderbarExtraDescender RadicalVerticalGap RadicalDisplayStyleVerticalGap RadicalRuleThickness RadicalExtraAscender RadicalKernBeforeDegree RadicalKernAfterDegree RadicalDegreeBottomRaisePercent"

// far are numbers that no constant, no index and no offset reaches, many of which have 16 low bits that a constant could have.
var far = []int{math.MinInt, math.MinInt + 1, math.MinInt + 5, math.MinInt32, -1<<32 + 5, -131072, -65537, -65536, -65535, -65531, 65536, 65537, 65541, 131071, 131072, math.MaxInt32, 1 << 32, 1<<32 + 5, 1 << 62, 1<<62 + 5, math.MaxInt - 4, math.MaxInt - 1, math.MaxInt}

// names are those of all constants, a list of its own for each call.
func names() []string { return strings.Fields(allNames) }

// source answers a function that tells numbers from 0 to n-1, the same ones for the same seed.
func source(seed uint64) func(n int) int {
	return func(n int) int {
		seed = seed*6364136223846793005 + 1442695040888963407
		return int(seed>>33) % n
	}
}

// isGreat tells of an index whether its constant is unsigned, by the chapter's words.
func isGreat(k int) bool { return k == 2 || k == 3 }

// least and greatest are a constant's bounds, by the chapter's words.
func least(k int) int {
	if isGreat(k) {
		return 0
	}
	return -32768
}

func greatest(k int) int {
	if isGreat(k) {
		return 65535
	}
	return 32767
}

// place is where a constant's bytes begin: four of two bytes, then four bytes for each.
func place(k int) int {
	if k < 4 {
		return 2 * k
	}
	return 8 + 4*(k-4)
}

// isIgnored tells whether a byte of the text is one of those behind the constants from 4 to 54.
func isIgnored(at int) bool {
	return at >= 8 && at < 212 && at%4 >= 2
}

// modelIs is by the chapter's words.
func modelIs(l []int) bool {
	if len(l) != 56 {
		return false
	}
	for k, n := range l {
		if n < least(k) || n > greatest(k) {
			return false
		}
	}
	return true
}

// modelGet reads byte by byte, each constant at its own place.
func modelGet(s string, at int) ([]int, api.Errno) {
	if at < 0 {
		return nil, api.ErrArg
	}
	if at > len(s) || len(s)-at < textBytes {
		return nil, api.ErrMore
	}
	l := make([]int, 56)
	for k := range l {
		high, low := int(s[at+place(k)]), int(s[at+place(k)+1])
		l[k] = 256*high + low
		if !isGreat(k) && high >= 128 {
			l[k] -= 65536
		}
	}
	return l, api.OK
}

// modelPut writes into noughts, each constant at its own place.
func modelPut(l []int) (string, api.Errno) {
	if !modelIs(l) {
		return "", api.ErrArg
	}
	b := make([]byte, textBytes)
	for k, n := range l {
		b[place(k)], b[place(k)+1] = byte((n+65536)/256), byte((n+65536)%256)
	}
	return string(b), api.OK
}

// every are 56 times the same number.
func every(n int) []int { return slices.Repeat([]int{n}, 56) }

// bounds are all constants' least numbers, or their greatest ones.
func bounds(of func(k int) int) []int {
	l := make([]int, 56)
	for k := range l {
		l[k] = of(k)
	}
	return l
}

// rising are 56 numbers all of whose bytes differ from those of the numbers beside them.
func rising() []int {
	l := make([]int, 56)
	for k := range l {
		l[k] = 257*k + 1000
	}
	return l
}

// changed is a list with another number at an index.
func changed(l []int, k, n int) []int {
	l = slices.Clone(l)
	l[k] = n
	return l
}

// randomList is a valid one, by right numbers.
func randomList(random func(n int) int) []int {
	l := make([]int, 56)
	for k := range l {
		l[k] = least(k) + random(65536)
	}
	return l
}

func randomText(random func(n int) int, n int) string {
	b := make([]byte, n)
	for i := range b {
		b[i] = byte(random(256))
	}
	return string(b)
}

// filled is a text of one byte, over and over.
func filled(c byte, n int) string { return strings.Repeat(string([]byte{c}), n) }

// with is a text whose bytes from a place on are others.
func with(s string, at int, other string) string { return s[:at] + other + s[at+len(other):] }

// cleaned is a text of constants whose ignored bytes are noughts.
func cleaned(s string) string {
	b := []byte(s)
	for at := range b {
		if isIgnored(at) {
			b[at] = 0
		}
	}
	return string(b)
}

func checkIs(t *testing.T, what string, l []int) {
	t.Helper()
	if got, want := konst.Is(l), modelIs(l); got != want {
		t.Errorf("P13.1: Is, %s: %v; want %v", what, got, want)
	}
}

func checkGet(t *testing.T, what, s string, at int) {
	t.Helper()
	got, e := konst.Get(s, at)
	want, f := modelGet(s, at)
	if !slices.Equal(got, want) || e != f {
		t.Errorf("P13.1: Get, %s, at %d of %d bytes: %v, %d; want %v, %d", what, at, len(s), got, e, want, f)
	}
}

// checkPut asks Is too: both tell of the same lists.
func checkPut(t *testing.T, what string, l []int) {
	t.Helper()
	checkIs(t, what, l)
	got, e := konst.Put(l)
	want, f := modelPut(l)
	if got != want || e != f {
		t.Errorf("P13.1: Put, %s: %q, %d; want %q, %d", what, got, e, want, f)
	}
}

func TestIsByLength(t *testing.T) {
	for _, n := range []int{0, 1, 2, 54, 55, 56, 57, 58, 107, 112, 214, 65536} {
		if got := konst.Is(make([]int, n)); got != (n == 56) {
			t.Errorf("P13.1: Is of %d noughts: %v", n, got)
		}
	}
	if konst.Is(nil) || konst.Is([]int{}) {
		t.Error("P13.1: Is of no list")
	}
	// What lies behind the list in its memory isn't the list's.
	if l := make([]int, 57); konst.Is(l[:55]) || !konst.Is(l[:56]) || !konst.Is(l[1:]) {
		t.Error("P13.1: Is of a part of a list")
	}
}

func TestIsByNumber(t *testing.T) {
	for k := range 56 {
		for n, want := range map[int]bool{least(k) - 1: false, least(k): true, least(k) + 1: true, -1: !isGreat(k), 0: true, 1: true, 32767: true, 32768: isGreat(k), greatest(k) - 1: true, greatest(k): true, greatest(k) + 1: false} {
			if got := konst.Is(changed(make([]int, 56), k, n)); got != want {
				t.Errorf("P13.1: Is with %d at %d: %v", n, k, got)
			}
		}
		for _, n := range far {
			if konst.Is(changed(make([]int, 56), k, n)) {
				t.Errorf("P13.1: Is with %d at %d: true", n, k)
			}
		}
	}
}

// All numbers near the bounds of both kinds, at the indices where the kind changes and where the fields do.
func TestIsAroundTheBounds(t *testing.T) {
	for _, k := range []int{0, 1, 2, 3, 4, 5, 30, 53, 54, 55} {
		for _, bound := range []int{-65536, -32768, 0, 32768, 65536} {
			for n := bound - 300; n <= bound+300; n++ {
				if got, want := konst.Is(changed(rising(), k, n)), n >= least(k) && n <= greatest(k); got != want {
					t.Errorf("P13.1: Is with %d at %d: %v", n, k, got)
				}
			}
		}
	}
}

func TestIsOfWholeLists(t *testing.T) {
	for what, l := range map[string][]int{"least": bounds(least), "greatest": bounds(greatest), "noughts": every(0), "rising": rising(), "all 32767": every(32767)} {
		if !konst.Is(l) {
			t.Errorf("P13.1: Is, %s: false", what)
		}
	}
	for what, l := range map[string][]int{"all 32768": every(32768), "all -1": every(-1), "all 65535": every(65535), "all -32768": every(-32768)} {
		if konst.Is(l) {
			t.Errorf("P13.1: Is, %s: true", what)
		}
	}
}

func TestGetOfKnownBytes(t *testing.T) {
	s := "\x00\x50\xff\xc4\x05\x14\xfa\xec" // 80, -60, 1300, 64236
	for k := 4; k <= 54; k++ {
		s += string([]byte{byte(k), 0x80, 0xaa, byte(k)})
	}
	s += "\x80\x01"
	want := []int{80, -60, 1300, 64236}
	for k := 4; k <= 54; k++ {
		want = append(want, 256*k+128)
	}
	want = append(want, -32767)
	if got, e := konst.Get(s, 0); !slices.Equal(got, want) || e != api.OK {
		t.Errorf("P13.1: %v, %d; want %v", got, e, want)
	}
}

// Each constant is read at its own place: all other bytes are noughts, or all are full.
func TestGetOfEachConstant(t *testing.T) {
	for k := range 56 {
		for _, field := range []string{"\x00\x01", "\x01\x00", "\x12\x34", "\x7f\xff", "\x7f\x00", "\x80\x00", "\x80\x01", "\x00\x80", "\x00\xff", "\xff\x00", "\xff\xff", "\xff\xfe", "\x9a\xbc", "\x00\x00"} {
			for _, rest := range []byte{0, 0xff, 0x7f, 0x80} {
				s := with(filled(rest, textBytes), place(k), field)
				checkGet(t, "one constant", s, 0)
				checkGet(t, "one constant behind others", filled(^rest, k)+s+"\x55", k)
			}
		}
	}
}

func TestGetOfSigns(t *testing.T) {
	for k := range 56 {
		for field, want := range map[string]int{"\x7f\xff": 32767, "\x80\x00": -32768, "\xff\xff": -1, "\x00\xff": 255, "\xff\x00": -256} {
			if isGreat(k) && want < 0 {
				want += 65536
			}
			l, e := konst.Get(with(filled(0, textBytes), place(k), field), 0)
			if e != api.OK || len(l) != 56 || l[k] != want {
				t.Errorf("P13.1: %q at %d: %v, %d; want %d there", field, k, l, e, want)
			}
		}
	}
}

func TestGetOfAllFieldsOfTwoBytes(t *testing.T) {
	for n := range 65536 {
		field := string([]byte{byte(n >> 8), byte(n)})
		// The text has the number in each of the fields, and in what is ignored.
		l, e := konst.Get(strings.Repeat(field, textBytes/2), 0)
		signed := int(int16(n))
		if e != api.OK || len(l) != 56 || l[0] != signed || l[2] != n || l[3] != n || l[4] != signed || l[55] != signed {
			t.Fatalf("P13.1: %d in each field: %v, %d", n, l, e)
		}
	}
}

func TestGetLeavesOutIgnoredBytes(t *testing.T) {
	whole, _ := modelPut(rising())
	count := 0
	for at := range textBytes {
		if !isIgnored(at) {
			continue
		}
		count++
		for _, c := range []string{"\x01", "\x7f", "\x80", "\xff"} {
			if l, e := konst.Get(with(whole, at, c), 0); !slices.Equal(l, rising()) || e != api.OK {
				t.Errorf("P13.1: with %q in the ignored byte %d: %v, %d", c, at, l, e)
			}
		}
	}
	if count != 2*51 {
		t.Fatalf("the test's model is wrong: %d ignored bytes", count)
	}
}

func TestGetOfShortTexts(t *testing.T) {
	random := source(131)
	for _, ahead := range []int{0, 1, 2, 3, 7, 213, 214, 215, 1000} {
		for n := range 430 {
			s := randomText(random, ahead+n)
			l, e := konst.Get(s, ahead)
			want := api.ErrMore
			if n >= textBytes {
				want = api.OK
			}
			if e != want || e != api.OK && len(l) != 0 {
				t.Errorf("P13.1: %d bytes from the offset %d on: %v, %d", n, ahead, l, e)
			}
			checkGet(t, "short text", s, ahead)
		}
	}
}

func TestGetAtOffsets(t *testing.T) {
	random := source(132)
	for _, n := range []int{0, 1, 213, 214, 215, 216, 428, 600} {
		s := randomText(random, n)
		for at := -300; at <= n+300; at++ {
			checkGet(t, "each offset", s, at)
		}
		for _, at := range append(slices.Clone(far), n-1, n, n+1, math.MaxInt-213, math.MaxInt-214, math.MaxInt-215, math.MaxInt-n, math.MinInt+n, math.MinInt+214, math.MinInt32+214, 1<<32-214, 1<<63-1-428) {
			checkGet(t, "far offset", s, at)
		}
	}
}

// A negative offset is told ahead of what is missing.
func TestGetErrorsInOrder(t *testing.T) {
	for _, s := range []string{"", "\x00", filled(1, 213), filled(1, 214), filled(1, 500)} {
		for _, at := range []int{-1, -2, -213, -214, -215, -65536, math.MinInt32, math.MinInt} {
			if l, e := konst.Get(s, at); e != api.ErrArg || len(l) != 0 {
				t.Errorf("P13.1: at %d of %d bytes: %v, %d", at, len(s), l, e)
			}
		}
		for _, at := range []int{len(s) - 213, len(s), len(s) + 1, len(s) + 214, math.MaxInt32, math.MaxInt - 213, math.MaxInt} {
			if l, e := konst.Get(s, max(at, 0)); len(s)-max(at, 0) < 214 && (e != api.ErrMore || len(l) != 0) {
				t.Errorf("P13.1: at %d of %d bytes: %v, %d", at, len(s), l, e)
			}
		}
	}
}

func TestGetOfRandomTexts(t *testing.T) {
	random := source(133)
	for range 20000 {
		checkGet(t, "random text", randomText(random, 200+random(60)), random(50)-5)
	}
}

func TestPutOfKnownLists(t *testing.T) {
	l := every(0)
	l[0], l[1], l[2], l[3], l[4], l[5], l[53], l[54], l[55] = 80, -60, 1300, 64236, -1, 250, -32768, 32767, 60
	want := "\x00\x50\xff\xc4\x05\x14\xfa\xec" + "\xff\xff\x00\x00" + "\x00\xfa\x00\x00" + filled(0, 4*47) + "\x80\x00\x00\x00" + "\x7f\xff\x00\x00" + "\x00\x3c"
	if s, e := konst.Put(l); s != want || e != api.OK {
		t.Errorf("P13.1: Put: %q, %d; want %q", s, e, want)
	}
	if s, e := konst.Put(every(0)); s != filled(0, textBytes) || e != api.OK {
		t.Errorf("P13.1: Put of noughts: %q, %d", s, e)
	}
	low := strings.Repeat("\x80\x00", 2) + "\x00\x00\x00\x00" + strings.Repeat("\x80\x00\x00\x00", 51) + "\x80\x00"
	if s, e := konst.Put(bounds(least)); s != low || e != api.OK {
		t.Errorf("P13.1: Put of the least: %q, %d; want %q", s, e, low)
	}
	high := strings.Repeat("\x7f\xff", 2) + "\xff\xff\xff\xff" + strings.Repeat("\x7f\xff\x00\x00", 51) + "\x7f\xff"
	if s, e := konst.Put(bounds(greatest)); s != high || e != api.OK {
		t.Errorf("P13.1: Put of the greatest: %q, %d; want %q", s, e, high)
	}
}

func TestPutOfEachConstant(t *testing.T) {
	for k := range 56 {
		for _, n := range []int{0, 1, 127, 128, 255, 256, 0x1234, 32766, 32767, -1, -2, -128, -129, -255, -256, -257, -32767, -32768, 32768, 40000, 65534, 65535, 65536, -32769} {
			checkPut(t, "one constant, noughts beside it", changed(every(0), k, n))
			checkPut(t, "one constant, others beside it", changed(rising(), k, n))
			checkPut(t, "one constant, the least beside it", changed(bounds(least), k, n))
		}
	}
}

func TestPutOfWrongLists(t *testing.T) {
	for _, n := range []int{0, 1, 2, 54, 55, 57, 58, 112, 214, 65536} {
		if s, e := konst.Put(make([]int, n)); s != "" || e != api.ErrArg {
			t.Errorf("P13.1: Put of %d noughts: %q, %d", n, s, e)
		}
	}
	if s, e := konst.Put(nil); s != "" || e != api.ErrArg {
		t.Errorf("P13.1: Put of nil: %q, %d", s, e)
	}
	for k := range 56 {
		for _, n := range append(slices.Clone(far), least(k)-1, greatest(k)+1) {
			if s, e := konst.Put(changed(rising(), k, n)); s != "" || e != api.ErrArg {
				t.Errorf("P13.1: Put with %d at %d: %q, %d", n, k, s, e)
			}
		}
	}
	// A list that is wrong in its length and in a number too.
	for _, l := range [][]int{{65536}, append(every(0), math.MaxInt), every(math.MinInt)[:55], every(math.MaxInt)} {
		if s, e := konst.Put(l); s != "" || e != api.ErrArg {
			t.Errorf("P13.1: Put of %v: %q, %d", l, s, e)
		}
	}
}

func TestPutWritesNoughtsInIgnoredBytes(t *testing.T) {
	for what, l := range map[string][]int{"least": bounds(least), "greatest": bounds(greatest), "rising": rising(), "all 32767": every(32767)} {
		s, e := konst.Put(l)
		if e != api.OK || len(s) != textBytes {
			t.Errorf("P13.1: Put, %s: %d bytes, %d", what, len(s), e)
			continue
		}
		for at := range textBytes {
			if isIgnored(at) && s[at] != 0 {
				t.Errorf("P13.1: Put, %s: the ignored byte %d is %d", what, at, s[at])
			}
		}
	}
}

func TestPutOfRandomLists(t *testing.T) {
	random := source(134)
	for range 5000 {
		l := randomList(random)
		checkPut(t, "random list", l)
		k := random(56)
		checkPut(t, "random list with one more", append(slices.Clone(l), 0))
		checkPut(t, "random list with one less", l[1:])
		checkPut(t, "random list with any number", changed(l, k, random(200000)-100000))
	}
}

func TestName(t *testing.T) {
	all := names()
	if len(all) != 56 {
		t.Fatalf("the test's list is wrong: %d names", len(all))
	}
	for k, want := range all {
		if got, e := konst.Name(k); got != want || e != api.OK {
			t.Errorf("P13.2: Name(%d): %q, %d; want %q", k, got, e, want)
		}
	}
}

func TestNameOfWrongIndices(t *testing.T) {
	wrong := append(slices.Clone(far), -1, -2, -55, -56, -57, 56, 57, 58, 111, 112, 255, 256, 257, 1<<32+55, 1<<32, -1<<32, -1<<32+1, 1<<63-56)
	for _, k := range wrong {
		if got, e := konst.Name(k); got != "" || e != api.ErrArg {
			t.Errorf("P13.2: Name(%d): %q, %d", k, got, e)
		}
	}
	for k := -70000; k <= 70000; k++ {
		if _, e := konst.Name(k); (e == api.OK) != (k >= 0 && k <= 55) {
			t.Errorf("P13.2: Name(%d): %d", k, e)
		}
	}
}

// The indices that api names are those of the names that they tell of.
func TestNamesOfApi(t *testing.T) {
	for k, want := range map[int]string{api.KScript: "ScriptPercentScaleDown", api.KDelimMin: "DelimitedSubFormulaMinHeight", api.KDisplayMin: "DisplayOperatorMinHeight", api.KLeading: "MathLeading", api.KAxis: "AxisHeight", api.KSubSupGap: "SubSuperscriptGapMin", api.KAfterScript: "SpaceAfterScript", api.KUpperGap: "UpperLimitGapMin", api.KStackGapTall: "StackDisplayStyleGapMin", api.KRule: "FractionRuleThickness", api.KSkewAlong: "SkewedFractionVerticalGap", api.KOverRule: "OverbarRuleThickness", api.KUnderGap: "UnderbarVerticalGap", api.KRadicalExtra: "RadicalExtraAscender", api.KDegreeAfter: "RadicalKernAfterDegree", api.KDegreeRaise: "RadicalDegreeBottomRaisePercent"} {
		if got, e := konst.Name(k); got != want || e != api.OK {
			t.Errorf("P13.2: Name(%d): %q, %d; want %q", k, got, e, want)
		}
	}
}

func TestFind(t *testing.T) {
	for want, name := range names() {
		if k, e := konst.Find(name); k != want || e != api.OK {
			t.Errorf("P13.3: Find(%q): %d, %d; want %d", name, k, e, want)
		}
		// A name made of new bytes is the same name.
		if k, e := konst.Find(strings.Clone("x" + name)[1:]); k != want || e != api.OK {
			t.Errorf("P13.3: Find(%q): %d, %d; want %d", name, k, e, want)
		}
	}
}

// near are texts like a name, none of which is that name.
func near(name string) []string {
	l := []string{strings.ToLower(name), strings.ToUpper(name), strings.ToLower(name[:1]) + name[1:], name + "s", name + " ", name + "\x00", name + "\n", " " + name, "\x00" + name, "K" + name, name + name, name[:len(name)-1], name[1:], name[:len(name)/2], name[len(name)/2:], name[:5] + " " + name[5:], name + "Min", name + "0", "\ufeff" + name, name[:1], `"` + name + `"`}
	for i := range name {
		l = append(l, name[:i]+name[i+1:], name[:i]+string(name[i]^32)+name[i+1:], name[:i]+"_"+name[i:], name[:i])
	}
	return l
}

func TestFindOfWrongNames(t *testing.T) {
	right := map[string]int{}
	for k, name := range names() {
		right[name] = k + 1
	}
	wrong := []string{"", " ", "\x00", "\xff\xfe", "KAxis", "Axis", "Height", "AxisHeights", "axisHeight", "AXISHEIGHT", "MinConnectorOverlap", "MathConstants", "SuperscriptShiftUpCramp", "0", "5", "-1", "56", allNames, strings.Repeat("AxisHeight", 10000), filled('A', 1<<20)}
	for _, name := range names() {
		wrong = append(wrong, near(name)...)
	}
	for _, name := range wrong {
		if right[name] != 0 {
			continue
		}
		if k, e := konst.Find(name); k != 0 || e != api.ErrName {
			t.Errorf("P13.3: Find(%q): %d, %d", shortText(name), k, e)
		}
	}
}

func shortText(s string) string {
	if len(s) <= 80 {
		return s
	}
	return s[:80] + ".."
}

func TestNameAndFindAreInverse(t *testing.T) {
	seen := map[string]int{}
	for k := range 56 {
		name, e := konst.Name(k)
		back, f := konst.Find(name)
		if e != api.OK || f != api.OK || back != k {
			t.Errorf("P13.4: Find(Name(%d)), %q: %d, %d, %d", k, name, back, e, f)
		}
		seen[name]++
	}
	if len(seen) != 56 {
		t.Errorf("P13.4: %d names differ", len(seen))
	}
	for _, name := range names() {
		k, e := konst.Find(name)
		back, f := konst.Name(k)
		if e != api.OK || f != api.OK || back != name {
			t.Errorf("P13.4: Name(Find(%q)), %d: %q, %d, %d", name, k, back, e, f)
		}
	}
}

// checkPutAndGet puts a valid list and gets it again, with other bytes around.
func checkPutAndGet(t *testing.T, l []int, ahead, behind string) {
	t.Helper()
	s, e := konst.Put(l)
	got, f := konst.Get(ahead+s+behind, len(ahead))
	if e != api.OK || f != api.OK || len(got) != len(l) {
		t.Errorf("P13.4: put and got: %v, %d, %d; want %v", got, e, f, l)
		return
	}
	for k := range l {
		if got[k] != l[k] {
			t.Errorf("P13.4: put and got at %d: %d; want %d", k, got[k], l[k])
		}
	}
}

func TestPutAndGet(t *testing.T) {
	random := source(135)
	for _, l := range [][]int{every(0), every(1), every(32767), bounds(least), bounds(greatest), rising()} {
		checkPutAndGet(t, l, "", "")
		checkPutAndGet(t, l, "\xff", "\xff\xff\xff")
	}
	for k := range 56 {
		for _, n := range []int{least(k), least(k) + 1, 0, 1, 255, 256, greatest(k) - 1, greatest(k)} {
			checkPutAndGet(t, changed(every(0), k, n), "", "")
			checkPutAndGet(t, changed(rising(), k, n), "ab", "c")
		}
	}
	for range 5000 {
		checkPutAndGet(t, randomList(random), randomText(random, random(9)), randomText(random, random(9)))
	}
}

// checkGetAndPut gets a text of constants, puts it, and gets it again.
func checkGetAndPut(t *testing.T, s string) {
	t.Helper()
	l, e := konst.Get(s, 0)
	if e != api.OK || !konst.Is(l) || len(l) != 56 {
		t.Errorf("P13.4: what is got of %q is not valid: %v, %d", s, l, e)
		return
	}
	put, f := konst.Put(l)
	if f != api.OK || put != cleaned(s) {
		t.Errorf("P13.4: got and put: %q, %d; want %q", put, f, cleaned(s))
	}
	again, g := konst.Get(put, 0)
	if g != api.OK || !slices.Equal(again, l) {
		t.Errorf("P13.4: got, put and got: %v, %d; want %v", again, g, l)
	}
}

func TestGetAndPut(t *testing.T) {
	random := source(136)
	for c := range 256 {
		checkGetAndPut(t, filled(byte(c), textBytes))
	}
	for at := range textBytes {
		for _, c := range []string{"\x01", "\x7f", "\x80", "\xff"} {
			checkGetAndPut(t, with(filled(0, textBytes), at, c))
			checkGetAndPut(t, with(filled(0xff, textBytes), at, c))
		}
	}
	for range 5000 {
		checkGetAndPut(t, randomText(random, textBytes))
	}
}

// The constants of a font with twice as many units per em are twice as great, but for the percentages: so they are read and written.
func TestTwiceAsManyUnits(t *testing.T) {
	for _, n := range []int{-16384, -5000, -1, 0, 1, 250, 8000, 16383} {
		once, twice := changed(every(0), api.KAxis, n), changed(every(0), api.KAxis, 2*n)
		s, _ := konst.Put(once)
		d, _ := konst.Put(twice)
		l, e := konst.Get(s, 0)
		m, f := konst.Get(d, 0)
		if e != api.OK || f != api.OK || m[api.KAxis] != 2*l[api.KAxis] {
			t.Errorf("T4: the axis %d, twice: %v and %v", n, l, m)
		}
	}
}

func TestArgumentsStay(t *testing.T) {
	for what, l := range map[string][]int{"rising": rising(), "least": bounds(least), "not valid": every(-1), "too long": append(every(0), 7)} {
		before := slices.Clone(l)
		konst.Is(l)
		konst.Put(l)
		if !slices.Equal(l, before) {
			t.Errorf("R2: %s: a list was modified: %v", what, l)
		}
	}
	// A list with room behind it: nothing is written there.
	whole := append(rising(), 11, 12, 13)
	konst.Is(whole[:56])
	konst.Put(whole[:56])
	if !slices.Equal(whole[56:], []int{11, 12, 13}) {
		t.Errorf("R2: what lies behind a list was modified: %v", whole[56:])
	}
}

func TestAnswersStay(t *testing.T) {
	s, _ := konst.Put(rising())
	first, _ := konst.Get(s, 0)
	second, _ := konst.Get(s, 0)
	for k := range first {
		first[k] = -7
	}
	first = append(first, 1)
	if third, e := konst.Get(s, 0); e != api.OK || !slices.Equal(second, rising()) || !slices.Equal(third, rising()) {
		t.Errorf("R2: an answer changed with another: %v and %v", second, third)
	}
	l := rising()
	put, _ := konst.Put(l)
	l[0], l[55] = 1, 2
	if again, _ := konst.Put(rising()); put != again || len(first) != 57 {
		t.Errorf("R2: an answer changed with its list: %q", put)
	}
}

// The same question has the same answer, whatever was asked before.
func TestAnswersHangOnArgumentsAlone(t *testing.T) {
	random := source(137)
	for range 200 {
		konst.Put(randomList(random))
		konst.Get(randomText(random, 300), random(100))
		konst.Find("AxisHeigh")
		if k, e := konst.Find("AxisHeight"); k != 5 || e != api.OK {
			t.Fatalf("R3: Find: %d, %d", k, e)
		}
		if name, e := konst.Name(55); name != "RadicalDegreeBottomRaisePercent" || e != api.OK {
			t.Fatalf("R3: Name: %q, %d", name, e)
		}
		checkGet(t, "after others", filled(0x81, textBytes), 0)
		checkPut(t, "after others", bounds(least))
	}
}
