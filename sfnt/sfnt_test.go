package sfnt_test

import (
	"encoding/binary"
	"math"
	"math/big"
	"slices"
	"strings"
	"testing"

	"vinculum/api"
	"vinculum/sfnt"
)

// entry is a record as a test writes it: what it says need not be so.
type entry struct {
	tag    string
	sum    int
	offset int
	length int
}

// file lays a file's parts one behind the other, whatever they say.
func file(version, count int, ignored string, entries []entry, rest string) string {
	b := binary.BigEndian.AppendUint32(nil, uint32(version))
	b = binary.BigEndian.AppendUint16(b, uint16(count))
	b = append(b, ignored...)
	for _, r := range entries {
		b = append(b, r.tag...)
		for _, n := range []int{r.sum, r.offset, r.length} {
			b = binary.BigEndian.AppendUint32(b, uint32(n))
		}
	}
	return string(b) + rest
}

// plain is a file of these records, with nothing wrong before them.
func plain(entries []entry, rest string) string {
	return file(65536, len(entries), "\x00\x00\x00\x00\x00\x00", entries, rest)
}

// sum is a table's, worked out without bounds.
func sum(tag, data string) int {
	b := []byte(data)
	if tag == "head" && len(b) >= 12 {
		b[8], b[9], b[10], b[11] = 0, 0, 0, 0
	}
	for len(b)%4 != 0 {
		b = append(b, 0)
	}
	all := new(big.Int)
	for ; len(b) > 0; b = b[4:] {
		all.Add(all, new(big.Int).SetBytes(b[:4]))
	}
	return int(all.Mod(all, big.NewInt(1<<32)).Int64())
}

// told is the record that a table at a place of a file should have.
func told(s, tag string, offset, length int) entry {
	return entry{tag, sum(tag, s[offset:offset+length]), offset, length}
}

func isTag(s string) bool {
	return len(s) == 4 && !strings.ContainsFunc(s, func(r rune) bool { return r < 32 || r > 126 })
}

// model reads a file by the words of P4.2, one after the other; it marks each table's bytes to tell those that two share.
func model(s string) (int, []api.Table, api.Errno) {
	number := func(at int) int { return int(binary.BigEndian.Uint32([]byte(s[at : at+4]))) }
	if len(s) > 16777216 {
		return 0, nil, api.ErrLong
	}
	if len(s) < 12 {
		return 0, nil, api.ErrMore
	}
	version := number(0)
	if version != 0x00010000 && s[:4] != "OTTO" {
		return 0, nil, api.ErrForm
	}
	n := int(s[4])*256 + int(s[5])
	if n > 64 {
		return 0, nil, api.ErrLong
	}
	if len(s) < 12+16*n {
		return 0, nil, api.ErrMore
	}
	var tables []api.Table
	marked := make([]bool, len(s))
	shared := false
	for i := range n {
		at := 12 + 16*i
		tag, offset, length := s[at:at+4], number(at+8), number(at+12)
		if !isTag(tag) || i > 0 && strings.Compare(tag, s[at-16:at-12]) <= 0 || offset%4 != 0 || offset < 12+16*n {
			return 0, nil, api.ErrForm
		}
		if offset+length > len(s) {
			return 0, nil, api.ErrMore
		}
		data := s[offset : offset+length]
		if sum(tag, data) != number(at+4) {
			return 0, nil, api.ErrForm
		}
		for j := offset; j < offset+length; j++ {
			shared = shared || marked[j]
			marked[j] = true
		}
		tables = append(tables, api.Table{Tag: tag, Data: data})
	}
	if shared {
		return 0, nil, api.ErrForm
	}
	return version, tables, api.OK
}

// source gives numbers below a bound; the same seed gives the same ones.
func source(seed int) func(int) int {
	bits := uint64(seed)*2862933555777941757 + 3037000493
	return func(bound int) int {
		bits = bits*6364136223846793005 + 1442695040888963407
		return int((bits >> 33) % uint64(bound))
	}
}

// some is a list of tables with rising tags, with bytes of all kinds; head is among them at times.
func some(next func(int) int, n, longest int) []api.Table {
	var tags []string
	for len(tags) < n {
		tag := []byte("head")
		if next(8) != 0 {
			for i := range tag {
				tag[i] = []byte(" ~ahe!z}")[next(8)]
			}
		}
		if !slices.Contains(tags, string(tag)) {
			tags = append(tags, string(tag))
		}
	}
	slices.Sort(tags)
	var l []api.Table
	for _, tag := range tags {
		data := make([]byte, next(longest+1))
		for i := range data {
			data[i] = []byte{0, 255, 128, byte(next(256))}[next(4)]
		}
		l = append(l, api.Table{Tag: tag, Data: string(data)})
	}
	return l
}

// distinct is n tables of no bytes.
func distinct(n int) []api.Table {
	var l []api.Table
	for i := range n {
		l = append(l, api.Table{Tag: string([]byte{'t', byte('A' + i/26), byte('A' + i%26), ' '})})
	}
	return l
}

func short(s string) string { return s[:min(len(s), 200)] }

func checkGet(t *testing.T, s string, version int, tables []api.Table, want api.Errno) {
	t.Helper()
	v, l, e := sfnt.Get(s)
	if v != version || !slices.Equal(l, tables) || e != want {
		t.Errorf("P4.2: Get(%q, of %d bytes) is %d, %.80q, %d, not %d, %.80q, %d", short(s), len(s), v, l, e, version, tables, want)
	}
	if e != api.OK && (v != 0 || len(l) != 0) {
		t.Errorf("R1: Get(%q) is %d, %v beside %d", short(s), v, l, e)
	}
}

func checkFault(t *testing.T, s string, want api.Errno) {
	t.Helper()
	checkGet(t, s, 0, nil, want)
}

func checkPut(t *testing.T, version int, l []api.Table, want string, wantE api.Errno) {
	t.Helper()
	before := slices.Clone(l)
	s, e := sfnt.Put(version, l)
	if s != want || e != wantE {
		t.Errorf("P4.3: Put(%d, %.80q) is %q, %d, not %q, %d", version, l, short(s), e, short(want), wantE)
	}
	if !slices.Equal(l, before) {
		t.Errorf("R2: Put changed its tables from %.80q to %.80q", before, l)
	}
}

func TestSumIsOfTheBytes(t *testing.T) {
	for _, k := range []struct {
		tag, data string
		want      int
	}{
		{"MATH", "", 0},
		{"MATH", "12345", 0x66323334},
		{"MATH", "\x01\x00\x00\x00\x02", 50331648},
		{"MATH", strings.Repeat("\xff", 16), 0xfffffffc},
		{"MATH", "aaaabbbb\xff\xff\xff\xffc", 0x26c3c3c2},
		{"head", "", 0},
		{"head", "\x01\x00\x00\x00\x02", 50331648},
		{"head", "\x00\x00\x00\x01\x00\x00\x00\x02\x01\x01\x01", 0x01010103},
		{"head", "\x00\x00\x00\x01\x00\x00\x00\x02\x01\x01\x01\x01", 3},
		{"head", "\x00\x00\x00\x01\x00\x00\x00\x02\x01\x01\x01\x01\x04", 0x04000003},
		{"heae", "\x00\x00\x00\x01\x00\x00\x00\x02\x01\x01\x01\x01", 0x01010104},
	} {
		if got := sfnt.Sum(api.Table{Tag: k.tag, Data: k.data}); got != k.want {
			t.Errorf("P4.1: Sum(%q, %q) is %#x, not %#x", k.tag, k.data, got, k.want)
		}
	}
}

func TestSumAtEveryLength(t *testing.T) {
	next := source(1)
	// What is no tag has a sum too: only the tag head counts bytes as zero.
	for _, tag := range []string{"head", "MATH", "Head", "HEAD", "hea", "head ", "heae", "geal", "", "\x00\x00\x00\x00"} {
		for n := range 40 {
			data := make([]byte, n)
			for i := range data {
				data[i] = byte(1 + next(255))
			}
			got := sfnt.Sum(api.Table{Tag: tag, Data: string(data)})
			if want := sum(tag, string(data)); got != want {
				t.Errorf("P4.1: Sum(%q, %q) is %d, not %d", tag, data, got, want)
			}
		}
	}
}

func TestGetReadsWhatIsWritten(t *testing.T) {
	// The tables stand in another order than the records, with a gap between two of them.
	s := "\x00\x01\x00\x00\x00\x03anyway" +
		"MATH\x66\x32\x33\x34\x00\x00\x00\x44\x00\x00\x00\x05" +
		"OS/2\x01\x02\x03\x04\x00\x00\x00\x3c\x00\x00\x00\x04" +
		"zzzz\x00\x00\x00\x00\x00\x00\x00\x40\x00\x00\x00\x00" +
		"\x01\x02\x03\x04" + "gap!" + "12345"
	tables := []api.Table{{Tag: "MATH", Data: "12345"}, {Tag: "OS/2", Data: "\x01\x02\x03\x04"}, {Tag: "zzzz", Data: ""}}
	checkGet(t, s, api.Plain, tables, api.OK)
	checkGet(t, s+"and more", api.Plain, tables, api.OK)
	checkGet(t, "OTTO"+s[4:], api.Otto, tables, api.OK)
}

func TestGetVersions(t *testing.T) {
	for _, k := range []struct {
		s    string
		want int
	}{
		{"\x00\x01\x00\x00", 65536}, {"OTTO", 1330926671},
		{"\x00\x00\x00\x00", 0}, {"\x00\x01\x00\x01", 0}, {"\x00\x00\xff\xff", 0}, {"\x01\x00\x00\x00", 0}, {"\x00\x00\x01\x00", 0}, {"\x00\x02\x00\x00", 0},
		{"OTTN", 0}, {"OTTP", 0}, {"otto", 0}, {"NTTO", 0}, {"true", 0}, {"typ1", 0}, {"ttcf", 0}, {"wOFF", 0}, {"\xff\xff\xff\xff", 0}, {"\x80\x01\x00\x00", 0},
	} {
		e := api.OK
		if k.want == 0 {
			e = api.ErrForm
		}
		checkGet(t, k.s+"\x00\x00\x00\x00\x00\x00\x00\x00", k.want, nil, e)
	}
}

func TestGetCounts(t *testing.T) {
	checkGet(t, file(api.Plain, 0, "\x00\x00\x00\x00\x00\x00", nil, ""), api.Plain, nil, api.OK)
	checkGet(t, file(api.Otto, 0, "ignore", nil, "rest"), api.Otto, nil, api.OK)
	for _, n := range []int{1, 2, 16, 63, 64} {
		var entries []entry
		l := distinct(n)
		for _, r := range l {
			entries = append(entries, entry{r.Tag, 0, 12 + 16*n, 0})
		}
		s := plain(entries, "")
		checkGet(t, s, api.Plain, l, api.OK)
		// The last record is not all there, one table too many is told, and one too few: that one's record is then no table's.
		checkFault(t, s[:len(s)-1], api.ErrMore)
		checkFault(t, file(api.Plain, n, "ignore", nil, ""), api.ErrMore)
		if n == 64 {
			checkFault(t, file(api.Plain, 65, "ignore", entries, ""), api.ErrLong)
			checkFault(t, file(api.Plain, 65, "ignore", entries, "zzzz\x00\x00\x00\x00\x00\x00\x04\x1c\x00\x00\x00\x00"), api.ErrLong)
		} else {
			checkFault(t, file(api.Plain, n+1, "ignore", entries, ""), api.ErrMore)
		}
		checkGet(t, file(api.Plain, n-1, "ignore", entries, ""), api.Plain, l[:n-1], api.OK)
	}
	// The number is of two bytes, each of which counts.
	for _, n := range []int{65, 256, 257, 320, 32768, 65535} {
		checkFault(t, file(api.Plain, n, "ignore", nil, ""), api.ErrLong)
	}
}

func TestGetTags(t *testing.T) {
	for at := range 4 {
		for c := range 256 {
			tag := []byte("abcd")
			tag[at] = byte(c)
			s := plain([]entry{{string(tag), 0, 28, 0}}, "")
			if c >= 32 && c <= 126 {
				checkGet(t, s, api.Plain, []api.Table{{Tag: string(tag)}}, api.OK)
			} else {
				checkFault(t, s, api.ErrForm)
			}
		}
	}
	for _, k := range []struct {
		a, b string
		e    api.Errno
	}{
		{"abcd", "abcd", api.ErrForm}, {"    ", "    ", api.ErrForm}, {"~~~~", "~~~~", api.ErrForm},
		{"abcd", "abce", api.OK}, {"abce", "abcd", api.ErrForm},
		{"a~~~", "b   ", api.OK}, {"b   ", "a~~~", api.ErrForm},
		{"aa~~", "ab  ", api.OK}, {"ab  ", "aa~~", api.ErrForm},
		{"MATH", "math", api.OK}, {"math", "MATH", api.ErrForm}, {"Zzzz", "aaaa", api.OK}, {"aaaa", "Zzzz", api.ErrForm},
		{"    ", "~~~~", api.OK}, {"~~~~", "    ", api.ErrForm}, {"~~~}", "~~~~", api.OK},
		{"\x1fbcd", "abcd", api.ErrForm}, {"abcd", "abc\x7f", api.ErrForm}, {"abcd", "\xffbcd", api.ErrForm},
	} {
		var tables []api.Table
		version := 0
		if k.e == api.OK {
			version, tables = api.Plain, []api.Table{{Tag: k.a}, {Tag: k.b}}
		}
		checkGet(t, plain([]entry{{k.a, 0, 44, 0}, {k.b, 0, 44, 0}}, ""), version, tables, k.e)
	}
	// Each is held against the one before it alone, but for all of them.
	checkFault(t, plain([]entry{{"aaaa", 0, 60, 0}, {"cccc", 0, 60, 0}, {"bbbb", 0, 60, 0}}, ""), api.ErrForm)
	checkFault(t, plain([]entry{{"bbbb", 0, 60, 0}, {"cccc", 0, 60, 0}, {"aaaa", 0, 60, 0}}, ""), api.ErrForm)
}

func TestGetOffsets(t *testing.T) {
	rest := strings.Repeat("\x00", 40)
	// One record ends at 28, and the file at 68.
	for offset := range 90 {
		for _, length := range []int{0, 1, 4, 7} {
			s := plain([]entry{{"abcd", 0, offset, length}}, rest)
			switch {
			case offset%4 != 0, offset < 28:
				checkFault(t, s, api.ErrForm)
			case offset+length > 68:
				checkFault(t, s, api.ErrMore)
			default:
				checkGet(t, s, api.Plain, []api.Table{{Tag: "abcd", Data: rest[:length]}}, api.OK)
			}
		}
	}
	// What counts is the end of the last record, not of a table's own.
	for _, k := range []struct {
		a, b int
		e    api.Errno
	}{{44, 44, api.OK}, {40, 44, api.ErrForm}, {44, 40, api.ErrForm}, {28, 44, api.ErrForm}, {44, 28, api.ErrForm}, {0, 44, api.ErrForm}, {44, 0, api.ErrForm}} {
		s := plain([]entry{{"aaaa", 0, k.a, 0}, {"bbbb", 0, k.b, 0}}, rest)
		if _, _, e := sfnt.Get(s); e != k.e {
			t.Errorf("P4.2: offsets %d, %d: %d, not %d", k.a, k.b, e, k.e)
		}
	}
	// Places and lengths are unsigned, and their sum does not wrap round.
	for _, k := range []struct {
		offset, length int
		e              api.Errno
	}{
		{28, 4294967295, api.ErrMore}, {28, 4294967268, api.ErrMore}, {28, 2147483648, api.ErrMore}, {28, 41, api.ErrMore}, {28, 40, api.OK},
		{4294967292, 0, api.ErrMore}, {4294967292, 4, api.ErrMore}, {4294967292, 32, api.ErrMore}, {4294967295, 0, api.ErrForm}, {2147483648, 0, api.ErrMore}, {72, 0, api.ErrMore}, {68, 0, api.OK}, {68, 1, api.ErrMore}, {64, 4, api.OK}, {64, 5, api.ErrMore},
	} {
		if _, _, e := sfnt.Get(plain([]entry{{"abcd", 0, k.offset, k.length}}, rest)); e != k.e {
			t.Errorf("P4.2: offset %d, length %d: %d, not %d", k.offset, k.length, e, k.e)
		}
	}
}

func TestGetSums(t *testing.T) {
	for _, tag := range []string{"abcd", "head"} {
		for n := range 20 {
			data := strings.Repeat("\x81\x02\xff", 10)[:n]
			good := sum(tag, data)
			checkGet(t, plain([]entry{{tag, good, 28, n}}, data), api.Plain, []api.Table{{Tag: tag, Data: data}}, api.OK)
			for _, wrong := range []int{1, -1, 256, 1 << 16, 1 << 24, 1 << 31} {
				checkFault(t, plain([]entry{{tag, good + wrong, 28, n}}, data), api.ErrForm)
			}
		}
	}
	// Bytes behind a table, up to a multiple of four and beyond, are not of it.
	checkGet(t, plain([]entry{{"abcd", sum("abcd", "12345"), 28, 5}}, "12345\xff\xff\xff\xff"), api.Plain, []api.Table{{Tag: "abcd", Data: "12345"}}, api.OK)
}

func TestGetTakesHeadWithoutItsSum(t *testing.T) {
	for _, n := range []int{11, 12, 13, 54} {
		data := strings.Repeat("\x01", n)
		for at := range n {
			turned := data[:at] + "\x07" + data[at+1:]
			s := plain([]entry{{"head", sum("head", data), 28, n}}, turned)
			if n >= 12 && at >= 8 && at <= 11 {
				checkGet(t, s, api.Plain, []api.Table{{Tag: "head", Data: turned}}, api.OK)
			} else {
				checkFault(t, s, api.ErrForm)
			}
			checkFault(t, plain([]entry{{"heae", sum("heae", data), 28, n}}, turned), api.ErrForm)
		}
	}
}

func TestGetOverlaps(t *testing.T) {
	rest := strings.Repeat("\x00", 24)
	places := []int{60, 64, 68, 72}
	lengths := []int{0, 1, 4, 5, 8, 9}
	for _, a := range places {
		for _, b := range places {
			for _, c := range places {
				for i := range 216 {
					entries := []entry{{"aaaa", 0, a, lengths[i%6]}, {"bbbb", 0, b, lengths[i/6%6]}, {"cccc", 0, c, lengths[i/36]}}
					s := plain(entries, rest)
					version, tables, e := model(s)
					checkGet(t, s, version, tables, e)
				}
			}
		}
	}
	for _, k := range []struct {
		a, alen, b, blen int
		e                api.Errno
	}{
		{44, 4, 48, 4, api.OK}, {48, 4, 44, 4, api.OK}, // they touch
		{44, 5, 48, 4, api.ErrForm}, {48, 4, 44, 5, api.ErrForm}, // they share the byte 48
		{44, 4, 44, 4, api.ErrForm}, {44, 1, 44, 1, api.ErrForm}, {44, 20, 48, 1, api.ErrForm},
		{44, 20, 48, 0, api.OK}, {48, 0, 44, 20, api.OK}, {44, 0, 44, 0, api.OK}, {44, 0, 44, 4, api.OK}, // one of no bytes shares none
		{44, 3, 48, 4, api.OK},
	} {
		s := plain([]entry{{"aaaa", 0, k.a, k.alen}, {"bbbb", 0, k.b, k.blen}}, rest)
		if _, _, e := sfnt.Get(s); e != k.e {
			t.Errorf("P4.2: tables %v: %d, not %d", k, e, k.e)
		}
	}
	// Two share bytes with an empty one between them, and two that are far from each other in the records.
	checkFault(t, plain([]entry{{"aaaa", 0, 60, 12}, {"bbbb", 0, 64, 0}, {"cccc", 0, 68, 4}}, rest), api.ErrForm)
	checkFault(t, plain([]entry{{"aaaa", 0, 68, 5}, {"bbbb", 0, 60, 4}, {"cccc", 0, 72, 4}}, rest), api.ErrForm)
}

func TestGetOfEveryStart(t *testing.T) {
	l := []api.Table{{Tag: "MATH", Data: "12345"}, {Tag: "glyf", Data: ""}, {Tag: "head", Data: strings.Repeat("\x01", 54)}}
	s, _ := sfnt.Put(api.Plain, l)
	// The file ends with two bytes of padding, which are no table's.
	for n := range len(s) + 1 {
		if n < len(s)-2 {
			checkFault(t, s[:n], api.ErrMore)
		} else {
			checkGet(t, s[:n], api.Plain, l, api.OK)
		}
	}
	// A start too short to tell its version is not told that it is a wrong one.
	for n := range 12 {
		checkFault(t, "true\x00\x41xxxxxx"[:n], api.ErrMore)
	}
	checkFault(t, "true\x00\x41xxxxxx", api.ErrForm)
}

func TestGetLongFiles(t *testing.T) {
	data := strings.Repeat("x", 16777216-28)
	r := told(data, "abcd", 0, len(data))
	r.offset = 28
	s := plain([]entry{r}, data)
	if len(s) != api.MaxFile {
		t.Fatalf("the file has %d bytes", len(s))
	}
	checkGet(t, s, api.Plain, []api.Table{{Tag: "abcd", Data: data}}, api.OK)
	checkFault(t, s+"x", api.ErrLong)
	checkFault(t, strings.Repeat("\x00", 16777217), api.ErrLong)
	checkFault(t, strings.Repeat("\x00", 16777216), api.ErrForm)
}

func TestGetChecksInOrder(t *testing.T) {
	rest := "datadata"
	good := entry{"bbbb", sum("", "data"), 44, 4}
	// Each change breaks a rule; the one that is named first is told, whatever else is broken.
	tag := func(r *entry) { r.tag = "b\x1fbb" }
	offset := func(r *entry) { r.offset = 46 }
	early := func(r *entry) { r.offset = 40 }
	end := func(r *entry) { r.length = 100 }
	check := func(r *entry) { r.sum++ }
	shared := func(r *entry) { r.sum, r.length = sum("", "datad"), 5 }
	second := entry{"cccc", sum("", "data"), 48, 4}
	for i, k := range []struct {
		first, second []func(*entry)
		e             api.Errno
	}{
		{nil, nil, api.OK},
		{[]func(*entry){tag, end}, nil, api.ErrForm},
		{[]func(*entry){offset, end}, nil, api.ErrForm},
		{[]func(*entry){early, end}, nil, api.ErrForm},
		{[]func(*entry){end}, nil, api.ErrMore},
		{[]func(*entry){end, check}, nil, api.ErrMore},
		{[]func(*entry){check}, nil, api.ErrForm},
		{[]func(*entry){shared}, nil, api.ErrForm},
		{[]func(*entry){shared}, []func(*entry){end}, api.ErrMore},
		{[]func(*entry){check}, []func(*entry){end}, api.ErrForm},
		{[]func(*entry){tag}, []func(*entry){end}, api.ErrForm},
		{[]func(*entry){offset}, []func(*entry){end}, api.ErrForm},
		{[]func(*entry){end}, []func(*entry){tag}, api.ErrMore},
		{[]func(*entry){end}, []func(*entry){offset}, api.ErrMore},
		{[]func(*entry){end}, []func(*entry){check}, api.ErrMore},
	} {
		a, b := good, second
		for _, turn := range k.first {
			turn(&a)
		}
		for _, turn := range k.second {
			turn(&b)
		}
		if _, _, e := sfnt.Get(plain([]entry{a, b}, rest)); e != k.e {
			t.Errorf("P4.2: faults %d: %d, not %d", i, e, k.e)
		}
	}
	// And before the records: version, number of tables, end of the records, what they say.
	checkFault(t, file(0, 65, "ignore", nil, ""), api.ErrForm)
	checkFault(t, file(0, 1, "ignore", nil, ""), api.ErrForm)
	checkFault(t, file(api.Plain, 65, "ignore", nil, ""), api.ErrLong)
	checkFault(t, file(api.Plain, 2, "ignore", []entry{{"\x00\x00\x00\x00", 1, 1, 1}}, ""), api.ErrMore)
	checkFault(t, file(api.Plain, 1, "ignore", []entry{{"\x00\x00\x00\x00", 1, 1, 1}}, ""), api.ErrForm)
	// A file too long is told so whatever is in it.
	for _, start := range []string{"", "true", file(api.Plain, 65, "ignore", nil, "")} {
		checkFault(t, start+strings.Repeat("\x00", 16777217-len(start)), api.ErrLong)
	}
}

func TestGetIsAsTheWordsSay(t *testing.T) {
	next := source(2)
	seen := map[api.Errno]int{}
	for range 40000 {
		n := next(5)
		end := 12 + 16*n
		rest := strings.Repeat("\x00\x00\x01\x00", 4)
		s := strings.Repeat("\x00", end) + rest
		var entries []entry
		for _, r := range some(next, n, 0) {
			offset := end + 4*next(5)
			entries = append(entries, told(s, r.Tag, offset, next(len(s)-offset+1)/(1+next(3))))
		}
		for range next(3) {
			if n == 0 {
				break
			}
			r := &entries[next(n)]
			switch next(5) {
			case 0:
				r.sum += next(3) - 1
			case 1:
				r.offset += next(9) - 4
			case 2:
				r.length = max(0, r.length+next(9)-4)
			case 3:
				r.tag = some(next, 1, 0)[0].Tag
			default:
				r.tag = r.tag[:next(4)] + "\x7f" + r.tag
				r.tag = r.tag[:4]
			}
		}
		version := []int{api.Plain, api.Otto, api.Plain, api.Otto, api.Plain, 65537}[next(6)]
		s = file(version, n, "ignore", entries, rest)
		if next(10) == 0 {
			s = s[:next(len(s)+1)]
		}
		version, tables, e := model(s)
		seen[e]++
		checkGet(t, s, version, tables, e)
	}
	for _, e := range []api.Errno{api.OK, api.ErrForm, api.ErrMore} {
		if seen[e] < 1000 {
			t.Errorf("only %d files of the answer %d", seen[e], e)
		}
	}
}

func TestPutWritesTheFile(t *testing.T) {
	l := []api.Table{{Tag: "MATH", Data: "12345"}, {Tag: "glyf", Data: ""}, {Tag: "head", Data: strings.Repeat("\x01", 12)}, {Tag: "hhea", Data: "abc"}, {Tag: "~~~~", Data: "12"}}
	want := "OTTO\x00\x05\x00\x40\x00\x02\x00\x10" +
		"MATH\x66\x32\x33\x34\x00\x00\x00\x5c\x00\x00\x00\x05" +
		"glyf\x00\x00\x00\x00\x00\x00\x00\x64\x00\x00\x00\x00" +
		"head\x02\x02\x02\x02\x00\x00\x00\x64\x00\x00\x00\x0c" +
		"hhea\x61\x62\x63\x00\x00\x00\x00\x70\x00\x00\x00\x03" +
		"~~~~\x31\x32\x00\x00\x00\x00\x00\x74\x00\x00\x00\x02" +
		"12345\x00\x00\x00" + strings.Repeat("\x01", 12) + "abc\x00" + "12\x00\x00"
	checkPut(t, api.Otto, l, want, api.OK)
	checkPut(t, api.Plain, nil, "\x00\x01\x00\x00\x00\x00\x00\x00\x00\x00\x00\x00", api.OK)
	checkPut(t, api.Otto, []api.Table{}, "OTTO\x00\x00\x00\x00\x00\x00\x00\x00", api.OK)
}

func TestPutAtEveryNumberOfTables(t *testing.T) {
	for n := range 65 {
		power, log := 0, 0
		for p := 1; p <= n; p *= 2 {
			power = p
		}
		for 1<<(log+1) <= n {
			log++
		}
		b := binary.BigEndian.AppendUint16(nil, uint16(16*power))
		b = binary.BigEndian.AppendUint16(b, uint16(log))
		b = binary.BigEndian.AppendUint16(b, uint16(16*n-16*power))
		l := distinct(n)
		var entries []entry
		rest := ""
		for i := range l {
			l[i].Data = strings.Repeat("\xfe", i%9)
			entries = append(entries, entry{l[i].Tag, sum("", l[i].Data), 12 + 16*n + len(rest), len(l[i].Data)})
			rest += l[i].Data
			for len(rest)%4 != 0 {
				rest += "\x00"
			}
		}
		checkPut(t, api.Plain, l, file(api.Plain, n, string(b), entries, rest), api.OK)
	}
	checkPut(t, api.Plain, distinct(65), "", api.ErrArg)
	checkPut(t, api.Plain, distinct(66), "", api.ErrArg)
	checkPut(t, api.Plain, distinct(600), "", api.ErrArg)
}

func TestPutVersions(t *testing.T) {
	for _, v := range []int{0, 1, -1, 65535, 65537, -65536, 131072, 256, 16777216, 1330926670, 1330926672, -1330926671, 1330926671 - 1<<32, 65536 + 1<<32, 1330926671 + 1<<32, 1953658213, math.MaxInt, math.MinInt} {
		checkPut(t, v, nil, "", api.ErrArg)
		checkPut(t, v, []api.Table{{Tag: "abcd", Data: "data"}}, "", api.ErrArg)
	}
}

func TestPutTags(t *testing.T) {
	for _, tag := range []string{"", "a", "abc", "abcde", "abcdabcd", "abc\x1f", "\x1fbcd", "a\x7fcd", "abc\x7f", "abc\x80", "abc\xff", "abc\x00", "abcé", "äb", "\nabc", " abc ", "éa"} {
		checkPut(t, api.Plain, []api.Table{{Tag: tag}}, "", api.ErrArg)
		checkPut(t, api.Plain, []api.Table{{Tag: "    "}, {Tag: tag}}, "", api.ErrArg)
		checkPut(t, api.Plain, []api.Table{{Tag: tag}, {Tag: "~~~~"}}, "", api.ErrArg)
	}
	for at := range 4 {
		for c := range 256 {
			tag := []byte("abcd")
			tag[at] = byte(c)
			_, e := sfnt.Put(api.Plain, []api.Table{{Tag: string(tag)}})
			if good := c >= 32 && c <= 126; good != (e == api.OK) || !good && e != api.ErrArg {
				t.Errorf("P4.3: Put of the tag %q is %d", tag, e)
			}
		}
	}
	for _, k := range []struct {
		tags string
		e    api.Errno
	}{
		{"abcdabcd", api.ErrArg}, {"abcdabce", api.OK}, {"abceabcd", api.ErrArg}, {"a~~~b   ", api.OK}, {"b   a~~~", api.ErrArg}, {"MATHmath", api.OK}, {"mathMATH", api.ErrArg},
		{"aaaaccccbbbb", api.ErrArg}, {"bbbbccccaaaa", api.ErrArg}, {"aaaabbbbcccc", api.OK}, {"aaaabbbbbbbb", api.ErrArg},
	} {
		var l []api.Table
		for s := k.tags; s != ""; s = s[4:] {
			l = append(l, api.Table{Tag: s[:4], Data: "x"})
		}
		s, e := sfnt.Put(api.Plain, l)
		if e != k.e || (s == "") != (e != api.OK) {
			t.Errorf("P4.3: Put of the tags %q is %d, not %d", k.tags, e, k.e)
		}
	}
}

func TestPutLongFiles(t *testing.T) {
	data := strings.Repeat("x", 16777216)
	// The bytes that one table may have, and those of the second of two: the padding counts as well.
	for _, k := range []struct {
		lengths []int
		e       api.Errno
	}{
		{[]int{16777188}, api.OK}, {[]int{16777187}, api.OK}, {[]int{16777185}, api.OK}, {[]int{16777189}, api.ErrLong}, {[]int{16777192}, api.ErrLong}, {[]int{16777216}, api.ErrLong},
		{[]int{1, 16777168}, api.OK}, {[]int{1, 16777169}, api.ErrLong}, {[]int{4, 16777168}, api.OK}, {[]int{5, 16777168}, api.ErrLong}, {[]int{16777171, 0}, api.OK}, {[]int{16777172, 0}, api.OK}, {[]int{16777173, 0}, api.ErrLong},
		{[]int{5, 16777164}, api.OK}, {[]int{5, 16777165}, api.ErrLong},
	} {
		var l []api.Table
		for i, n := range k.lengths {
			l = append(l, api.Table{Tag: []string{"aaaa", "bbbb"}[i], Data: data[:n]})
		}
		s, e := sfnt.Put(api.Plain, l)
		if e != k.e || (s == "") != (e != api.OK) {
			t.Errorf("P4.3: Put of lengths %v is of %d bytes, %d, not %d", k.lengths, len(s), e, k.e)
		}
		if e == api.OK && len(s) > 16777216 {
			t.Errorf("P4.3: Put of lengths %v is of %d bytes", k.lengths, len(s))
		}
		if e == api.OK {
			checkGet(t, s, api.Plain, l, api.OK)
		}
	}
	// What is wrong with the arguments is told first.
	checkPut(t, 0, []api.Table{{Tag: "abcd", Data: data}}, "", api.ErrArg)
	checkPut(t, api.Plain, []api.Table{{Tag: "abc", Data: data}}, "", api.ErrArg)
	checkPut(t, api.Plain, []api.Table{{Tag: "abcd", Data: data}, {Tag: "abcd"}}, "", api.ErrArg)
	many := distinct(65)
	for i := range many {
		many[i].Data = data
	}
	checkPut(t, api.Plain, many, "", api.ErrArg)
	checkPut(t, api.Plain, many[:64], "", api.ErrLong)
}

func TestFind(t *testing.T) {
	l := []api.Table{{Tag: "head", Data: "one"}, {Tag: "MATH", Data: ""}, {Tag: "head", Data: "two"}, {Tag: "", Data: "none"}, {Tag: "long tag", Data: "long"}, {Tag: "MATH", Data: "more"}, {Tag: "last", Data: "last"}}
	before := slices.Clone(l)
	for _, k := range []struct {
		tag, data string
		ok        bool
	}{
		{"head", "one", true}, {"MATH", "", true}, {"last", "last", true}, {"", "none", true}, {"long tag", "long", true},
		{"HEAD", "", false}, {"math", "", false}, {"hea", "", false}, {"head ", "", false}, {"long", "", false}, {"zzzz", "", false}, {"one", "", false},
	} {
		if data, ok := sfnt.Find(l, k.tag); data != k.data || ok != k.ok {
			t.Errorf("P4.4: Find(%q) is %q, %v, not %q, %v", k.tag, data, ok, k.data, k.ok)
		}
		if data, ok := sfnt.Find(nil, k.tag); data != "" || ok {
			t.Errorf("P4.4: Find(%q) in nothing is %q, %v", k.tag, data, ok)
		}
	}
	if !slices.Equal(l, before) {
		t.Errorf("R2: Find changed its tables to %v", l)
	}
}

func TestWhatIsPutIsRead(t *testing.T) {
	next := source(3)
	for i := range 3000 {
		l := some(next, next(8), 30)
		if i%100 == 0 {
			l = some(next, 64, 30)
		}
		version := []int{api.Plain, api.Otto}[next(2)]
		s, e := sfnt.Put(version, l)
		if e != api.OK {
			t.Fatalf("P4.5: Put(%d, %v) is %d", version, l, e)
		}
		if v, m, e := sfnt.Get(s); v != version || !slices.Equal(m, l) || e != api.OK {
			t.Errorf("P4.5: Get(Put(%d, %v)) is %d, %v, %d", version, l, v, m, e)
		}
	}
}

func TestWhatIsReadIsPut(t *testing.T) {
	next := source(4)
	for range 3000 {
		n := next(6)
		end := 12 + 16*n
		tables := some(next, n, 30)
		// They stand in any order, behind gaps of any length.
		order := make([]int, n)
		for i := range order {
			order[i] = i
		}
		for i := range order {
			j := next(i + 1)
			order[i], order[j] = order[j], order[i]
		}
		entries := make([]entry, n)
		rest := ""
		for _, i := range order {
			rest += strings.Repeat("g", 4*next(3))
			for (end+len(rest))%4 != 0 {
				rest += "g"
			}
			data := tables[i].Data
			entries[i] = entry{tables[i].Tag, sum(tables[i].Tag, data), end + len(rest), len(data)}
			rest += data
		}
		s := file(api.Otto, n, "ignore", entries, rest+strings.Repeat("g", next(9)))
		v, l, e := sfnt.Get(s)
		if v != api.Otto || !slices.Equal(l, tables) || e != api.OK {
			t.Fatalf("P4.2: Get(%q) is %d, %v, %d", s, v, l, e)
		}
		again, e := sfnt.Put(v, l)
		if e != api.OK {
			t.Fatalf("P4.5: Put of %v is %d", l, e)
		}
		if v, l, e := sfnt.Get(again); v != api.Otto || !slices.Equal(l, tables) || e != api.OK {
			t.Errorf("P4.5: %v is read again as %d, %v, %d", tables, v, l, e)
		}
	}
	// The greatest file, whose last table ends without padding.
	data := strings.Repeat("x", 16777213-28)
	r := told(data, "abcd", 0, len(data))
	r.offset = 28
	v, l, _ := sfnt.Get(plain([]entry{r}, data))
	again, e := sfnt.Put(v, l)
	if len(again) != 16777216 || e != api.OK {
		t.Errorf("P4.5: the greatest file is written again with %d bytes, %d", len(again), e)
	}
}

func TestAChangedByteIsRefused(t *testing.T) {
	for _, n := range []int{11, 12, 54} {
		l := []api.Table{{Tag: "MATH", Data: "12345\x00\xff"}, {Tag: "glyf", Data: ""}, {Tag: "head", Data: strings.Repeat("\x00\xff\x80", 18)[:n]}, {Tag: "hhea", Data: strings.Repeat("\xff", 8)}}
		s, _ := sfnt.Put(api.Plain, l)
		offset := 12 + 16*len(l)
		for _, r := range l {
			for at := range len(r.Data) {
				free := r.Tag == "head" && n >= 12 && at >= 8 && at <= 11
				for c := range 256 {
					turned := s[:offset+at] + string([]byte{byte(c)}) + s[offset+at+1:]
					v, m, e := sfnt.Get(turned)
					if (turned == s || free) != (e == api.OK) || e != api.OK && (e != api.ErrForm || v != 0 || m != nil) {
						t.Errorf("P4.5: the byte %d of %s as %d: %d, %v, %d", at, r.Tag, c, v, m, e)
					}
				}
			}
			offset += (len(r.Data) + 3) / 4 * 4
		}
	}
}
