package label_test

import (
	"bytes"
	"fmt"
	"math"
	"slices"
	"strings"
	"testing"

	"abatis/api"
	"abatis/label"
	"abatis/text"
)

// of is a label of so many bytes.
func of(n int) string { return strings.Repeat("a", n) }

// long is a name of so many bytes, from 194 to 257 on (three labels of 63 bytes, a fourth one, and the 0).
func long(t *testing.T, size int) string {
	t.Helper()
	name := of(63) + "." + of(63) + "." + of(63) + "." + of(size-194)
	if len(name)+2 != size {
		t.Fatalf("a name of %d bytes, want %d", len(name)+2, size)
	}
	return name
}

// many is a name of 255 bytes, and of as many labels as there may be.
func many() string { return strings.Repeat("b.", 126) + "b" }

// may is names that may be.
func may(t *testing.T) []string {
	return []string{
		"", "a", "a.b", "www.example.test", "WWW.Example.TEST", "1.2.3.4", "-", "_a._b", "a b", "\x00", "\x00.\xc0", "\xff.\x80.\xfe", "\xc3\xa4.test", "*.a",
		of(1), of(2), of(62), of(63), of(63) + ".a", "a." + of(63), of(63) + "." + of(63),
		long(t, 195), long(t, 253), long(t, 254), long(t, 255), many(),
	}
}

// mayNot is names of which none may be.
func mayNot(t *testing.T) []string {
	return []string{
		".", "..", "...", "a.", ".a", "a.b.", ".a.b", "a..b", "a...b", "..a", "a..",
		of(64), of(65), of(128), of(192), of(255), of(256), of(64) + ".a", "a." + of(64), "a." + of(64) + ".b", "a.b." + of(65),
		long(t, 256), long(t, 257), many() + "b", many() + ".b", "b" + many(), strings.Repeat("b.", 127), strings.Repeat("b.", 400) + "b", of(1 << 16),
	}
}

// draws is numbers that look like chance, and are the same in every run.
func draws(seed uint64) func(n int) int {
	return func(n int) int {
		seed = seed*6364136223846793005 + 1442695040888963407
		return int(seed>>33) % n
	}
}

// plainBytes is a name's bytes, worked out from its pieces.
func plainBytes(name string) []byte {
	var b []byte
	if name != "" {
		for _, l := range strings.Split(name, ".") {
			b = append(append(b, byte(len(l))), l...)
		}
	}
	return append(b, 0)
}

func wantBytes(t *testing.T, what string, got, want []byte) {
	t.Helper()
	if !bytes.Equal(got, want) {
		t.Errorf("%s: %v, want %v", what, got, want)
	}
}

func wantRead(t *testing.T, b []byte, at int, name string, next int) {
	t.Helper()
	if s, n, e := label.Read(b, at); s != name || n != next || e != api.OK {
		t.Errorf("Read at %d: %q, %d, %v, want %q, %d", at, s, n, e, name, next)
	}
}

func wantNoRead(t *testing.T, b []byte, at int, want api.Errno) {
	t.Helper()
	if s, n, e := label.Read(b, at); s != "" || n != 0 || e != want {
		t.Errorf("Read(%v, %d): %q, %d, %v, want %v", b, at, s, n, e, want)
	}
}

// write writes names, and asks that each may be.
func write(t *testing.T, w *label.Writer, names ...string) {
	t.Helper()
	for _, name := range names {
		if !w.Name(name) {
			t.Errorf("Name(%q): false", name)
		}
	}
}

func wantWritten(t *testing.T, w *label.Writer, want ...byte) {
	t.Helper()
	wantBytes(t, "Bytes", w.Bytes(), want)
	if w.Len() != len(want) {
		t.Errorf("Len: %d, want %d", w.Len(), len(want))
	}
}

// P8.1, May

func TestMay(t *testing.T) {
	for _, name := range may(t) {
		if !label.May(name) {
			t.Errorf("May(%q): false", name)
		}
	}
}

func TestMayNot(t *testing.T) {
	for _, name := range mayNot(t) {
		if label.May(name) {
			t.Errorf("May(%q): true", name)
		}
	}
}

func TestMayOfOneLabel(t *testing.T) {
	for n := range 300 {
		if got, want := label.May(of(n)), n <= 63; got != want {
			t.Errorf("May of a label of %d bytes: %v", n, got)
		}
	}
}

func TestMayOfEachLength(t *testing.T) {
	for size := 195; size <= 257; size++ {
		if got, want := label.May(long(t, size)), size <= 255; got != want {
			t.Errorf("May of a name of %d bytes: %v", size, got)
		}
	}
}

func TestMayOfEachByte(t *testing.T) {
	for c := range 256 {
		s := string([]byte{byte(c)})
		if got, want := label.May(s), c != '.'; got != want {
			t.Errorf("May(%q): %v", s, got)
		}
		if name := "a" + s + "b"; !label.May(name) {
			t.Errorf("May(%q): false", name)
		}
	}
}

// P8.1, Labels

func TestLabels(t *testing.T) {
	for name, want := range map[string][]string{
		"":             nil,
		"a":            {"a"},
		"a.b":          {"a", "b"},
		"www.Ab.test":  {"www", "Ab", "test"},
		"a b.c":        {"a b", "c"},
		"\xff.\x00":    {"\xff", "\x00"},
		of(63) + ".a":  {of(63), "a"},
		".":            {"", ""},
		"a.":           {"a", ""},
		".a":           {"", "a"},
		"a..b":         {"a", "", "b"},
		of(64) + ".bc": {of(64), "bc"},
	} {
		if got := label.Labels(name); !slices.Equal(got, want) {
			t.Errorf("Labels(%q): %q, want %q", name, got, want)
		}
	}
	if got := label.Labels(many()); len(got) != 127 {
		t.Errorf("%d labels, want 127", len(got))
	}
}

func TestLabelsAreNew(t *testing.T) {
	one, two := label.Labels("a.b"), label.Labels("a.b")
	one[0] = "x"
	if two[0] != "a" || label.Labels("a.b")[0] != "a" {
		t.Error("two answers share their memory")
	}
}

// P8.1, Under

func TestUnder(t *testing.T) {
	for _, x := range [][2]string{
		{"a.b.c", "a.b.c"}, {"a.b.c", "b.c"}, {"a.b.c", "c"}, {"a.b.c", ""},
		{"a", "a"}, {"a", ""}, {"", ""},
		{"a.b.c", "B.C"}, {"A.B.C", "b.c"}, {"a.B.c", "A.b.C"}, {"A", "a"},
		{"xyz.Example.TEST", "eXAMPLE.test"},
		{"a.a", "a"}, {"a.a.a", "a.a"},
		{"\xff.b", "b"}, {"a.\xff", "\xff"},
		{of(63) + ".b", "b"},
	} {
		if !label.Under(x[0], x[1]) {
			t.Errorf("Under(%q, %q): false", x[0], x[1])
		}
	}
}

func TestNotUnder(t *testing.T) {
	for _, x := range [][2]string{
		{"b.c", "a.b.c"}, {"", "a"}, {"c", "b.c"},
		{"a.b.c", "a"}, {"a.b.c", "b"}, {"a.b.c", "a.b"},
		{"ab.c", "b.c"}, {"aB.c", "b.c"}, {"ab", "b"}, {"a.bc", "c"},
		{"a.b", "ab"}, {"a.b", "a-b"}, {"a.b.c", "b-c"},
		{"a.b", ".b"}, {"a.b", "."}, {"a.b", "b."},
		{"a.k", "\xe2\x84\xaa"}, {"a.[", "{"}, {"a.@", "`"}, {"a.\xc4", "\xe4"},
	} {
		if label.Under(x[0], x[1]) {
			t.Errorf("Under(%q, %q): true", x[0], x[1])
		}
	}
}

func TestUnderItselfItsParentsAndTheEmptyName(t *testing.T) {
	for _, name := range may(t) {
		for other := name; ; other = label.Parent(other) {
			if !label.Under(name, other) || !label.Under(text.Lower(name), other) || !label.Under(name, text.Lower(other)) {
				t.Errorf("Under(%q, %q): false", name, other)
			}
			if got, want := label.Under(other, name), len(other) == len(name); got != want {
				t.Errorf("Under(%q, %q): %v", other, name, got)
			}
			if other == "" {
				break
			}
		}
	}
}

// modelUnder holds the last labels of one name against those of another one.
func modelUnder(name, other string) bool {
	if other == "" {
		return true
	}
	a, b := strings.Split(name, "."), strings.Split(other, ".")
	if name == "" || len(b) > len(a) {
		return false
	}
	for i, l := range b {
		if strings.ToLower(a[len(a)-len(b)+i]) != strings.ToLower(l) {
			return false
		}
	}
	return true
}

func TestUnderOfAllShortNames(t *testing.T) {
	names := []string{""}
	for from, n := 0, 0; n < 5; n++ {
		to := len(names)
		for _, s := range names[from:to] {
			for _, c := range "aAb." {
				names = append(names, s+string(c))
			}
		}
		from = to
	}
	for _, a := range names {
		for _, b := range names {
			if got, want := label.Under(a, b), modelUnder(a, b); got != want {
				t.Fatalf("Under(%q, %q): %v, want %v", a, b, got, want)
			}
		}
	}
}

// P8.1, Parent

func TestParent(t *testing.T) {
	for name, want := range map[string]string{
		"": "", "a": "", of(63): "", "a.b": "b", "a.b.c": "b.c", "A.B.C": "B.C", "b.c": "c", of(63) + ".b": "b", "a b.c": "c",
		".": "", "a.": "", ".a": "a", "a..b": ".b", ".b.c": "b.c", of(64) + ".b": "b",
	} {
		if got := label.Parent(name); got != want {
			t.Errorf("Parent(%q): %q, want %q", name, got, want)
		}
	}
}

func TestParentLeavesOutOneLabel(t *testing.T) {
	for _, name := range may(t) {
		for ; name != ""; name = label.Parent(name) {
			if !slices.Equal(label.Labels(name)[1:], label.Labels(label.Parent(name))) {
				t.Errorf("Parent(%q): %q", name, label.Parent(name))
			}
		}
	}
}

// P8.1, Bytes

func TestBytes(t *testing.T) {
	for name, want := range map[string][]byte{
		"":          {0},
		"a":         {1, 'a', 0},
		"a.b":       {1, 'a', 1, 'b', 0},
		"www.B":     {3, 'w', 'w', 'w', 1, 'B', 0},
		"a.a":       {1, 'a', 1, 'a', 0},
		"a.a.a":     {1, 'a', 1, 'a', 1, 'a', 0},
		"\x00.\xc0": {1, 0, 1, 192, 0},
	} {
		got, e := label.Bytes(name)
		wantBytes(t, name, got, want)
		if e != api.OK {
			t.Errorf("Bytes(%q): %v", name, e)
		}
	}
}

func TestBytesOfAllThatMayBe(t *testing.T) {
	for _, name := range may(t) {
		got, e := label.Bytes(name)
		wantBytes(t, name, got, plainBytes(name))
		if e != api.OK || len(got) > 255 {
			t.Errorf("Bytes(%q): %d of them, %v", name, len(got), e)
		}
	}
	for _, name := range []string{long(t, 255), many()} {
		if b, _ := label.Bytes(name); len(b) != 255 {
			t.Errorf("%d bytes, want 255", len(b))
		}
	}
}

func TestBytesOfWhatMayNotBe(t *testing.T) {
	for _, name := range mayNot(t) {
		if b, e := label.Bytes(name); len(b) != 0 || e != api.ErrArg {
			t.Errorf("Bytes(%q): %v, %v", name, b, e)
		}
	}
}

func TestBytesAreNew(t *testing.T) {
	one, _ := label.Bytes("a.b")
	two, _ := label.Bytes("a.b")
	one[1] = 'x'
	wantBytes(t, "the other answer", two, []byte{1, 'a', 1, 'b', 0})
}

// P8.2, Read: names

func TestReadWithoutPointers(t *testing.T) {
	for _, name := range may(t) {
		b := plainBytes(name)
		wantRead(t, b, 0, name, len(b))
		around := slices.Concat([]byte{7, 192, 0}, b, []byte{1, 'x', 0})
		wantRead(t, around, 3, name, 3+len(b))
		wantRead(t, around, 3+len(b), "x", 6+len(b))
	}
}

func TestReadAtEachPlace(t *testing.T) {
	b := []byte{1, 'a', 2, 'B', 'c', 0, 0}
	wantRead(t, b, 0, "a.Bc", 6)
	wantRead(t, b, 2, "Bc", 6)
	wantRead(t, b, 5, "", 6)
	wantRead(t, b, 6, "", 7)
	wantNoRead(t, b, 7, api.ErrForm)
	wantNoRead(t, b, 1, api.ErrForm) // 97 is no length
}

func TestReadOfPointers(t *testing.T) {
	b := []byte{
		1, 'a', 1, 'b', 0, // 0: a.b
		1, 'c', 192, 2, // 5: c.b
		192, 0, // 9: a.b
		192, 9, // 11: by a pointer to a pointer
		1, 'd', 192, 11, // 13: d.a.b
		192, 4, // 17: the empty name
		192, 5, // 19: c.b
		1, 'e', 192, 19, // 21: e.c.b
		3, 1, 'x', 0, // 25: \x01x\x00
	}
	wantRead(t, b, 0, "a.b", 5)
	wantRead(t, b, 5, "c.b", 9)
	wantRead(t, b, 7, "b", 9)
	wantRead(t, b, 9, "a.b", 11)
	wantRead(t, b, 11, "a.b", 13)
	wantRead(t, b, 13, "d.a.b", 17)
	wantRead(t, b, 15, "a.b", 17)
	wantRead(t, b, 17, "", 19)
	wantRead(t, b, 19, "c.b", 21)
	wantRead(t, b, 21, "e.c.b", 25)
	wantRead(t, b, 26, "x", 29)
	wantNoRead(t, b, 25, api.ErrForm)
	wantNoRead(t, b, 29, api.ErrForm)
}

func TestReadOfAPointerJustBehindItsPlace(t *testing.T) {
	wantRead(t, []byte{0, 192, 0}, 1, "", 3)
	wantRead(t, []byte{0, 1, 'a', 192, 0}, 1, "a", 5)
	wantRead(t, []byte{9, 0, 192, 1, 9}, 2, "", 4)
	// The labels at the place ahead run on into the pointer, which is then not ahead of them.
	wantNoRead(t, []byte{1, 'a', 192, 0}, 2, api.ErrForm)
}

func TestReadOfAPointerWithinALabel(t *testing.T) {
	b := []byte{4, 1, 'x', 0, 'y', 0, 1, 'a', 192, 1}
	wantRead(t, b, 0, "\x01x\x00y", 6)
	wantRead(t, b, 6, "a.x", 10)
}

func TestReadOfManyPointers(t *testing.T) {
	b := []byte{1, 'a', 0}
	for len(b) < 16384 {
		place := len(b) - 2
		if len(b) == 3 {
			place = 0
		}
		b = append(b, 192|byte(place>>8), byte(place))
	}
	for _, at := range []int{3, 5, 7, 1001, 16381, 16383} {
		wantRead(t, b, at, "a", at+2)
	}
	// Each run of labels ends in a pointer to the one ahead.
	b = []byte{0}
	name := ""
	for i := range 127 {
		at, place := len(b), max(0, len(b)-4)
		if i == 0 {
			place = 0
		}
		b = append(b, 1, byte('a'+i%26), 192|byte(place>>8), byte(place))
		name = strings.TrimSuffix(string(rune('a'+i%26))+"."+name, ".")
		wantRead(t, b, at, name, len(b))
	}
	at := len(b)
	wantNoRead(t, append(b, 1, 'x', 192|byte((at-4)>>8), byte(at-4)), at, api.ErrLong)
}

func TestReadOfEachPlaceOfAPointer(t *testing.T) {
	b := make([]byte, 16384, 16390)
	for _, place := range []int{0, 1, 2, 127, 128, 255, 256, 257, 511, 512, 4095, 4096, 8191, 8192, 12345, 16128, 16381} {
		copy(b[place:], []byte{1, 'k', 0})
		m := append(b[:16384:16384], 2, 'a', 'b', 192|byte(place>>8), byte(place), 7)
		wantRead(t, m, 16384, "ab.k", 16389)
		wantRead(t, m, 16387, "k", 16389)
		clear(b)
	}
	m := append(b[:16384:16384], 192|63, 255)
	wantRead(t, m, 16384, "", 16386)
}

func TestReadOfLongestNames(t *testing.T) {
	full := long(t, 255)
	b := plainBytes(full)
	wantRead(t, b, 0, full, 255)
	wantRead(t, append(slices.Clone(b), 192, 0), 255, full, 257)
	wantRead(t, plainBytes(many()), 0, many(), 255)
	// 253 bytes and a label of one byte more are 255: with a pointer, or without.
	almost := long(t, 253)
	wantRead(t, append(plainBytes(almost), 1, 'x', 192, 0), 253, "x."+almost, 257)
	// By several pointers, in several pieces.
	b = append(plainBytes(of(63)+"."+of(63)), 63)
	b = append(append(b, of(63)...), 192, 0, 61)
	b = append(append(b, of(61)...), 192, 129)
	wantRead(t, b, 129+66, of(61)+"."+of(63)+"."+of(63)+"."+of(63), 129+66+64)
}

func TestReadOfEachByteOfALabel(t *testing.T) {
	for c := range 256 {
		b := []byte{3, 'x', byte(c), 'y', 0}
		if c == '.' {
			wantNoRead(t, b, 0, api.ErrForm)
			continue
		}
		wantRead(t, b, 0, string([]byte{'x', byte(c), 'y'}), 5)
	}
}

// P8.2, Read: errors

func TestReadOfBytesThatEnd(t *testing.T) {
	wantNoRead(t, nil, 0, api.ErrForm)
	wantNoRead(t, []byte{}, 0, api.ErrForm)
	wantNoRead(t, []byte{0}, 1, api.ErrForm)
	for _, name := range may(t) {
		b := append([]byte{0}, plainBytes(name)...)
		for end := range len(b) - 1 {
			wantNoRead(t, b[:1+end], 1, api.ErrForm)
		}
	}
	b := []byte{1, 'a', 0, 2, 'b', 'c', 192, 0}
	for end := 3; end < len(b); end++ {
		wantNoRead(t, b[:end], 3, api.ErrForm)
	}
	wantRead(t, b, 3, "bc.a", 8)
}

func TestReadNeverTakesSpareRoom(t *testing.T) {
	room := []byte{0, 2, 'a', 'b', 192, 0}
	for end := 1; end < 6; end++ {
		wantNoRead(t, room[:end], 1, api.ErrForm)
	}
}

func TestReadOfLengths(t *testing.T) {
	for n := range 256 {
		b := slices.Concat([]byte{0, byte(n)}, []byte(of(n)), []byte{0})
		switch {
		case n < 64:
			next := n + 3
			if n == 0 {
				next = 2
			}
			wantRead(t, b, 1, of(n), next)
		default:
			// From 192 on it is a pointer to what stands behind.
			wantNoRead(t, b, 1, api.ErrForm)
		}
		if n >= 64 && n < 192 {
			wantNoRead(t, slices.Concat([]byte{1, 'a'}, b[1:]), 0, api.ErrForm)
			wantNoRead(t, []byte{byte(n), 0, 192, 0}, 2, api.ErrForm)
			wantNoRead(t, []byte{0, byte(n), 0}, 1, api.ErrForm)
		}
	}
}

func TestReadOfPointersThatLeadNotAhead(t *testing.T) {
	for _, x := range []struct {
		b  []byte
		at int
	}{
		{[]byte{192, 0}, 0},                            // to itself
		{[]byte{0, 192, 1}, 1},                         // to itself
		{[]byte{0, 192, 2, 0}, 1},                      // within itself
		{[]byte{192, 2, 0}, 0},                         // to what stands behind
		{[]byte{0, 192, 3, 0}, 1},                      // to what stands behind
		{[]byte{192, 200}, 0},                          // beyond the end
		{[]byte{255, 255}, 0},                          // beyond the end
		{[]byte{0, 255, 255}, 1},                       // beyond the end
		{[]byte{0, 192, 3}, 1},                         // to the end
		{[]byte{1, 'a', 192, 0}, 0},                    // to its first label
		{[]byte{0, 1, 'a', 192, 1}, 1},                 // to its first label
		{[]byte{1, 'a', 1, 'b', 192, 2}, 0},            // to its second label
		{[]byte{0, 1, 'a', 1, 'b', 192, 3}, 1},         // to its second label
		{[]byte{0, 1, 0, 192, 2}, 1},                   // within its label
		{[]byte{1, 'a', 192, 4, 0}, 0},                 // behind
		{[]byte{192, 2, 192, 0}, 2},                    // two that lead to each other
		{[]byte{192, 2, 192, 0}, 0},                    // two that lead to each other
		{[]byte{1, 'a', 192, 0, 192, 0}, 4},            // the second one leads to its own labels
		{[]byte{0, 192, 1, 192, 1}, 3},                 // to one that leads to itself
		{[]byte{1, 'a', 192, 4, 0, 192, 0}, 5},         // behind its labels, ahead of the first pointer
		{[]byte{0, 1, 'a', 192, 1, 1, 'b', 192, 1}, 5}, // to labels that lead to themselves
		{[]byte{0, 0, 192, 1, 192, 4}, 4},              // to itself, with others ahead
	} {
		wantNoRead(t, x.b, x.at, api.ErrForm)
	}
	// What is held against is where those labels began, not the first ones, and not the pointer.
	b := []byte{0, 1, 'a', 192, 0, 1, 'b', 192, 1, 1, 'c', 192, 5}
	wantRead(t, b, 9, "c.b.a", 13)
}

// Where reading begins labels begin, whatever stands ahead.
func TestReadFromWithinLabels(t *testing.T) {
	// At 4 the pointer itself begins, so that 2 is ahead of it; but the labels that begin there lead to themselves.
	for _, at := range []int{0, 2, 4} {
		wantNoRead(t, []byte{1, 'a', 1, 'b', 192, 2, 0}, at, api.ErrForm)
	}
	wantRead(t, []byte{1, 'a', 0, 'b', 192, 2}, 4, "", 6)
	b := []byte{0, 0, 1, 'b', 192, 1}
	wantRead(t, b, 2, "b", 6)
	wantRead(t, b, 4, "", 6)
}

func TestReadOfNamesThatAreTooLong(t *testing.T) {
	b := plainBytes(long(t, 256))
	wantNoRead(t, b, 0, api.ErrLong)
	wantRead(t, b, 64, label.Parent(long(t, 256)), 256)
	wantNoRead(t, plainBytes(long(t, 257)), 0, api.ErrLong)
	wantNoRead(t, plainBytes(many()+".b"), 0, api.ErrLong)
	wantNoRead(t, plainBytes(strings.Repeat("b.", 400)+"b"), 0, api.ErrLong)
	// With pointers: they count for nothing, and what they lead to counts.
	wantNoRead(t, append(plainBytes(long(t, 255)), 1, 'x', 192, 0), 255, api.ErrLong)
	wantNoRead(t, append(plainBytes(long(t, 254)), 1, 'x', 192, 0), 254, api.ErrLong)
	wantNoRead(t, append(plainBytes(long(t, 254)), 63), 254, api.ErrForm)
	b = append(plainBytes(long(t, 256)), 192, 0)
	wantNoRead(t, b, 256, api.ErrLong)
}

// Of two errors the one that is met first is told.
func TestReadTellsWhatIsMetFirst(t *testing.T) {
	// 192 bytes of labels: 63 more, with their length and the 0, are too many; 61 more are 255, just as many as may be.
	head := []byte{}
	for range 3 {
		head = append(append(head, 63), of(63)...)
	}
	with := func(parts ...[]byte) []byte { return slices.Concat(append([][]byte{{0}, head}, parts...)...) }
	whole := func(n int) []byte { return append([]byte{byte(n)}, of(n)...) }
	dotted := func(n, i int) []byte {
		l := whole(n)
		l[1+i] = '.'
		return l
	}
	for name, x := range map[string]struct {
		b    []byte
		want api.Errno
	}{
		"too long, and the bytes end behind it":            {with(whole(63)), api.ErrLong},
		"too long, and a length behind it":                 {with(whole(63), []byte{64}), api.ErrLong},
		"too long, and half a pointer behind it":           {with(whole(63), []byte{192}), api.ErrLong},
		"too long, and a pointer to itself behind it":      {with(whole(63), []byte{192, 1}), api.ErrLong},
		"too long, and a pointer behind it":                {with(whole(63), []byte{192, 0}), api.ErrLong},
		"too long, and a dot in the label behind it":       {with(whole(63), dotted(1, 0), []byte{0}), api.ErrLong},
		"too long by the 0 alone":                          {with(whole(62), []byte{0}), api.ErrLong},
		"too long by the 0, and the bytes end":             {with(whole(62)), api.ErrLong},
		"too long by the 0, and a length behind it":        {with(whole(62), []byte{100}), api.ErrLong},
		"a dot at the end of the label that is too much":   {with(dotted(63, 62), []byte{0}), api.ErrForm},
		"a dot at the begin of the label that is too much": {with(dotted(63, 0), []byte{0}), api.ErrForm},
		"the bytes end within the label that is too much":  {with(whole(63)[:63]), api.ErrForm},
		"the bytes end behind the length that is too much": {with([]byte{63}), api.ErrForm},
		"just as many, and the bytes end":                  {with(whole(61)), api.ErrForm},
		"just as many, and a length behind it":             {with(whole(61), []byte{64}, []byte(of(64)), []byte{0}), api.ErrForm},
		"just as many, and a pointer to itself":            {with(whole(61), []byte{192, 1}), api.ErrForm},
		"just as many, and a dot":                          {with(dotted(61, 5), []byte{0}), api.ErrForm},
		"just as many, and a label with a dot":             {with(whole(61), dotted(3, 1), []byte{0}), api.ErrForm},
		"just as many, and a label that ends":              {with(whole(61), []byte{3, 'a', 'b'}), api.ErrForm},
		"just as many, and a label":                        {with(whole(61), whole(1)), api.ErrLong},
		"a dot, and then too long":                         {slices.Concat([]byte{0, 1, '.'}, head, whole(63), []byte{0}), api.ErrForm},
		"a length, and then too long":                      {slices.Concat([]byte{0, 64}, head, whole(63), []byte{0}), api.ErrForm},
		"a dot, and a length":                              {[]byte{0, 1, '.', 64, 0}, api.ErrForm},
	} {
		if s, next, e := label.Read(x.b, 1); s != "" || next != 0 || e != x.want {
			t.Errorf("%s: %q, %d, %v, want %v", name, s, next, e, x.want)
		}
	}
	wantRead(t, with(whole(61), []byte{0}), 1, of(63)+"."+of(63)+"."+of(63)+"."+of(61), 256)
	wantRead(t, with(whole(61), []byte{192, 0}), 1, of(63)+"."+of(63)+"."+of(63)+"."+of(61), 257)
}

// The same, where what is wrong is reached by a pointer.
func TestReadTellsWhatIsMetFirstByPointers(t *testing.T) {
	// 253 bytes of labels: with the 0 there is room for one byte more, and so for no label.
	labels := plainBytes(long(t, 254))[:253]
	for name, tail := range map[string][]byte{
		"a 0":                 {0},
		"a length":            {64},
		"a label with a dot":  {1, '.'},
		"a pointer to itself": {193, 0},
	} {
		b := slices.Concat([]byte{0, 0, 0}, labels, tail, []byte{0, 0, 1, 'x', 192, 3})
		if s, next, e := label.Read(b, len(b)-4); s != "" || next != 0 || e != api.ErrLong {
			t.Errorf("%s: %q, %d, %v, want %v", name, s, next, e, api.ErrLong)
		}
	}
	// A dot that a pointer leads to, behind what is just not too much, and behind what is.
	b := slices.Concat([]byte{1, '.', 0}, labels, []byte{192, 0})
	wantNoRead(t, b, 3, api.ErrForm)
	b = slices.Concat([]byte{1, '.', 0, 1, 'x'}, labels, []byte{192, 0})
	wantNoRead(t, b, 3, api.ErrLong)
	wantNoRead(t, b, 5, api.ErrForm)
}

func TestReadAtPlacesThatAreNone(t *testing.T) {
	for _, at := range []int{-1, -2, 4, 5, 1 << 20, 1 << 40, math.MaxInt, math.MaxInt - 1, math.MinInt} {
		wantNoRead(t, []byte{1, 'a', 0}, at, api.ErrForm)
		wantNoRead(t, nil, at, api.ErrForm)
	}
}

func TestReadChangesNothing(t *testing.T) {
	b := []byte{1, 'A', 0, 1, 'c', 192, 0, 64, 9, 9}
	was := slices.Clone(b)
	for at := range 9 {
		label.Read(b[:8], at)
	}
	wantBytes(t, "what was read", b, was)
	s, _, _ := label.Read(b, 3)
	b[1], b[4] = 'x', 'y'
	if s != "c.A" {
		t.Errorf("what was answered changed to %q", s)
	}
}

// P8.3

func TestWriterAtZero(t *testing.T) {
	var w label.Writer
	wantWritten(t, &w)
	w.Raw()
	wantWritten(t, &w)
	write(t, &w, "")
	wantWritten(t, &w, 0)
	write(t, new(label.Writer), "a.b")
	write(t, &label.Writer{}, "a.b")
}

func TestWriterOfTheExample(t *testing.T) {
	var w label.Writer
	write(t, &w, "a.b")
	wantWritten(t, &w, 1, 97, 1, 98, 0)
	write(t, &w, "c.b")
	wantWritten(t, &w, 1, 97, 1, 98, 0, 1, 99, 192, 2)
}

func TestWriterOfOneName(t *testing.T) {
	for _, name := range may(t) {
		var w label.Writer
		write(t, &w, name)
		wantWritten(t, &w, plainBytes(name)...)
	}
}

func TestWriterOfANameTwice(t *testing.T) {
	var w label.Writer
	write(t, &w, "a.b", "a.b", "a.b")
	wantWritten(t, &w, 1, 'a', 1, 'b', 0, 192, 0, 192, 0)
	write(t, &w, "b", "b")
	wantWritten(t, &w, 1, 'a', 1, 'b', 0, 192, 0, 192, 0, 192, 2, 192, 2)
}

func TestWriterOfTheEmptyName(t *testing.T) {
	var w label.Writer
	write(t, &w, "", "a", "", "")
	wantWritten(t, &w, 0, 1, 'a', 0, 0, 0)
}

func TestWriterOfNamesThatEndAlike(t *testing.T) {
	var w label.Writer
	write(t, &w, "a.b.c") // 0
	want := []byte{1, 'a', 1, 'b', 1, 'c', 0}
	wantWritten(t, &w, want...)
	for _, x := range []struct {
		name string
		more []byte
	}{
		{"x.b.c", []byte{1, 'x', 192, 2}},                  // 7
		{"y.x.b.c", []byte{1, 'y', 192, 7}},                // 11
		{"c", []byte{192, 4}},                              // 15
		{"b.c", []byte{192, 2}},                            // 17
		{"z.y.x.b.c", []byte{1, 'z', 192, 11}},             // 19
		{"b", []byte{1, 'b', 0}},                           // 23: b alone did not end a name ahead
		{"a.b", []byte{1, 'a', 192, 23}},                   // 26
		{"c.c", []byte{1, 'c', 192, 4}},                    // 30
		{"c.c.c", []byte{1, 'c', 192, 30}},                 // 34
		{"bb.c", []byte{2, 'b', 'b', 192, 4}},              // 38
		{"d.e", []byte{1, 'd', 1, 'e', 0}},                 // 43
		{"a.a.b.c", []byte{1, 'a', 192, 0}},                // 48
		{"a.a", []byte{1, 'a', 1, 'a', 0}},                 // 52
		{"a", []byte{192, 54}},                             // 57
		{"d.e", []byte{192, 43}},                           // 59
		{"a.d.e", []byte{1, 'a', 192, 43}},                 // 61
		{"", []byte{0}},                                    // 65
		{"ab.c.d", []byte{2, 'a', 'b', 1, 'c', 1, 'd', 0}}, // 66
	} {
		write(t, &w, x.name)
		want = append(want, x.more...)
		wantWritten(t, &w, want...)
	}
}

// Names that are like one another are the same byte by byte, or no shorter.
func TestWriterTellsLettersApart(t *testing.T) {
	var w label.Writer
	write(t, &w, "a.b", "A.b", "a.B", "A.B", "A.b", "a.B")
	wantWritten(t, &w, 1, 'a', 1, 'b', 0,
		1, 'A', 192, 2,
		1, 'a', 1, 'B', 0,
		1, 'A', 192, 11,
		192, 5,
		192, 9)
}

func TestWriterOfWhatMayNotBe(t *testing.T) {
	for _, name := range mayNot(t) {
		var w label.Writer
		if w.Name(name) || w.Len() != 0 || len(w.Bytes()) != 0 {
			t.Errorf("Name(%q): written", name)
		}
		write(t, &w, "a.b")
		if w.Name(name) || w.Len() != 5 {
			t.Errorf("Name(%q) behind another one: written", name)
		}
		// What was refused is nothing that a pointer could lead to.
		write(t, &w, "c.b")
		wantWritten(t, &w, 1, 'a', 1, 'b', 0, 1, 'c', 192, 2)
	}
	var w label.Writer
	w.Name(of(64) + ".ab.cd")
	w.Name("x..ab.cd")
	w.Name(".ab.cd")
	w.Name(many() + ".cd")
	w.Name("ab.cd.")
	write(t, &w, "ab.cd")
	wantWritten(t, &w, 2, 'a', 'b', 2, 'c', 'd', 0)
}

func TestWriterOfBytesBetween(t *testing.T) {
	var w label.Writer
	w.Raw(1, 'a', 0) // no name: what Raw puts counts for nothing
	write(t, &w, "a")
	w.Raw()
	w.Raw(9)
	write(t, &w, "b.a")
	w.Raw([]byte{1, 'c', 192, 3}...)
	write(t, &w, "c.a", "b.a")
	wantWritten(t, &w, 1, 'a', 0,
		1, 'a', 0,
		9,
		1, 'b', 192, 3,
		1, 'c', 192, 3,
		1, 'c', 192, 3,
		192, 7)
}

func TestWriterOfEachByte(t *testing.T) {
	var w label.Writer
	var want []byte
	for c := range 256 {
		w.Raw(byte(c))
		want = append(want, byte(c))
	}
	wantWritten(t, &w, want...)
}

// at is a writer with so many bytes.
func at(n int) *label.Writer {
	w := &label.Writer{}
	w.Raw(make([]byte, n)...)
	return w
}

// tail is what a writer wrote from a place on.
func tail(w *label.Writer, from int) []byte { return w.Bytes()[from:] }

func TestWriterAtPlacesOfHighBytes(t *testing.T) {
	for _, n := range []int{0, 1, 2, 3, 63, 64, 254, 255, 256, 257, 300, 1232, 4095, 4096, 8192, 16000, 16382, 16383} {
		w := at(n)
		write(t, w, "a", "x.a")
		wantBytes(t, fmt.Sprint("from ", n), tail(w, n), []byte{1, 'a', 0, 1, 'x', 192 | byte(n>>8), byte(n)})
	}
}

func TestWriterAtPlacesThatNoPointerReaches(t *testing.T) {
	for _, n := range []int{16384, 16385, 16640, 20000, 32768, 49152, 65535, 65536, 65537, 1 << 18} {
		w := at(n)
		write(t, w, "a.b", "a.b", "x.a.b", "b", "")
		wantBytes(t, fmt.Sprint("from ", n), tail(w, n), []byte{1, 'a', 1, 'b', 0, 1, 'a', 1, 'b', 0, 1, 'x', 1, 'a', 1, 'b', 0, 1, 'b', 0, 0})
	}
}

func TestWriterAroundTheLastPlace(t *testing.T) {
	// a.b begins at the place, b two bytes behind it.
	for n, want := range map[int][]byte{
		16380: {192 | 63, 252, 192 | 63, 254, 1, 'c', 192 | 63, 254},
		16381: {192 | 63, 253, 192 | 63, 255, 1, 'c', 192 | 63, 255},
		16382: {192 | 63, 254, 1, 'b', 0, 1, 'c', 1, 'b', 0},
		16383: {192 | 63, 255, 1, 'b', 0, 1, 'c', 1, 'b', 0},
		16384: {1, 'a', 1, 'b', 0, 1, 'b', 0, 1, 'c', 1, 'b', 0},
	} {
		w := at(n)
		write(t, w, "a.b")
		wantBytes(t, "the first one", tail(w, n), []byte{1, 'a', 1, 'b', 0})
		write(t, w, "a.b", "b", "c.b")
		wantBytes(t, fmt.Sprint("from ", n), tail(w, n+5), want)
	}
}

// What began below is shortened by a pointer, however far behind it is written.
func TestWriterFarBehind(t *testing.T) {
	var w label.Writer
	write(t, &w, "a.b", "c")
	w.Raw(make([]byte, 70000)...)
	n := w.Len()
	write(t, &w, "x.a.b", "b", "x.a.b", "c", "d.c")
	wantBytes(t, "far behind", tail(&w, n), []byte{1, 'x', 192, 0, 192, 2, 1, 'x', 192, 0, 192, 5, 1, 'd', 192, 5})
}

func TestWriterKeepsNoArguments(t *testing.T) {
	var w label.Writer
	room := []byte{1, 2, 3, 4}
	w.Raw(room[:2]...)
	w.Raw(9)
	wantBytes(t, "what was handed in", room, []byte{1, 2, 3, 4})
	room[0] = 7
	wantWritten(t, &w, 1, 2, 9)
}

func TestWriterGivesCopies(t *testing.T) {
	var w label.Writer
	write(t, &w, "a.b")
	b := w.Bytes()
	for i := range b {
		b[i] = 0
	}
	b = append(b, 7)
	b[0] = 8
	wantWritten(t, &w, 1, 'a', 1, 'b', 0)
	early := w.Bytes()
	write(t, &w, "c")
	wantBytes(t, "what was told earlier", early, []byte{1, 'a', 1, 'b', 0})
	wantWritten(t, &w, 1, 'a', 1, 'b', 0, 1, 'c', 0)
}

func TestWritersKnowNothingOfEachOther(t *testing.T) {
	var one, two label.Writer
	write(t, &one, "a.b")
	write(t, &two, "c.b")
	wantWritten(t, &one, 1, 'a', 1, 'b', 0)
	wantWritten(t, &two, 1, 'c', 1, 'b', 0)
}

// modelWriter looks for the first place in a list of all that was written.
type modelWriter struct {
	b     []byte
	rests []string
	begun []int
}

func (m *modelWriter) name(name string) {
	if name == "" {
		m.b = append(m.b, 0)
		return
	}
	labels := strings.Split(name, ".")
	known := len(m.rests)
	for i, l := range labels {
		rest := strings.Join(labels[i:], ".")
		if j := slices.Index(m.rests[:known], rest); j >= 0 && m.begun[j] < 16384 {
			m.b = append(m.b, 192+byte(m.begun[j]/256), byte(m.begun[j]%256))
			return
		}
		m.rests, m.begun = append(m.rests, rest), append(m.begun, len(m.b))
		m.b = append(append(m.b, byte(len(l))), l...)
	}
	m.b = append(m.b, 0)
}

// drawn is a name of few letters, so that many end alike.
func drawn(draw func(int) int) string {
	labels := make([]string, draw(6))
	for i := range labels {
		labels[i] = []string{"a", "b", "A", "ab", "a\x00", of(1 + draw(63))}[draw(6)]
	}
	if name := strings.Join(labels, "."); len(name) <= api.MaxName {
		return name
	}
	return ""
}

// P8.4

func TestWhatAWriterWroteIsRead(t *testing.T) {
	for seed := range 30 {
		draw := draws(uint64(seed))
		var w label.Writer
		var m modelWriter
		type stand struct {
			name     string
			at, next int
		}
		var stands []stand
		for range 400 {
			if draw(3) == 0 {
				raw := make([]byte, draw(200))
				for i := range raw {
					raw[i] = byte(draw(256))
				}
				w.Raw(raw...)
				m.b = append(m.b, raw...)
			}
			s := stand{name: drawn(draw), at: w.Len()}
			write(t, &w, s.name)
			m.name(s.name)
			s.next = w.Len()
			stands = append(stands, s)
		}
		b := w.Bytes()
		if !bytes.Equal(b, m.b) {
			t.Fatalf("draws %d: another writer writes otherwise", seed)
		}
		for _, s := range stands {
			wantRead(t, b, s.at, s.name, s.next)
		}
	}
}

func TestLongestNamesThatAWriterWroteAreRead(t *testing.T) {
	var w label.Writer
	names := may(t)
	var places []int
	for range 3 {
		for _, name := range names {
			places = append(places, w.Len())
			write(t, &w, name)
		}
	}
	places = append(places, w.Len())
	for i, at := range places[:len(places)-1] {
		wantRead(t, w.Bytes(), at, names[i%len(names)], places[i+1])
	}
}

// modelRead reads byte by byte, and looks up each pointer anew.
func modelRead(b []byte, at int) (string, int, api.Errno) {
	name, next, size := "", 0, 0
	for begun := at; ; {
		if at >= len(b) {
			return "", 0, api.ErrForm
		}
		n := int(b[at])
		at++
		if n == 0 {
			if next == 0 {
				next = at
			}
			return strings.TrimPrefix(name, "."), next, api.OK
		}
		if n >= 64 && n < 192 {
			return "", 0, api.ErrForm
		}
		if n >= 192 {
			if at >= len(b) {
				return "", 0, api.ErrForm
			}
			place := (n-192)*256 + int(b[at])
			if at++; next == 0 {
				next = at
			}
			if place >= begun {
				return "", 0, api.ErrForm
			}
			begun, at = place, place
			continue
		}
		name += "."
		for range n {
			if at >= len(b) || b[at] == '.' {
				return "", 0, api.ErrForm
			}
			name += string(b[at : at+1])
			at++
		}
		if size += n + 1; size+1 > 255 {
			return "", 0, api.ErrLong
		}
	}
}

func wantAsModel(t *testing.T, b []byte, at int) api.Errno {
	t.Helper()
	s, n, e := label.Read(b, at)
	if ws, wn, we := modelRead(b, at); s != ws || n != wn || e != we {
		t.Fatalf("Read(%v, %d): %q, %d, %v, want %q, %d, %v", b, at, s, n, e, ws, wn, we)
	}
	if e == api.OK && (!label.May(s) || n <= at || n > len(b)) {
		t.Fatalf("Read(%v, %d): %q, %d", b, at, s, n)
	}
	return e
}

func TestReadOfAnyBytes(t *testing.T) {
	draw := draws(1)
	told := map[api.Errno]int{}
	for range 20000 {
		b := make([]byte, draw(40))
		for i := range b {
			// Few kinds of bytes, so that lengths, pointers and ends meet.
			b[i] = []byte{0, 1, 2, 3, 'a', '.', 192, 192, byte(draw(256)), byte(draw(40)), 64, 'B'}[draw(12)]
		}
		for at := range len(b) + 1 {
			told[wantAsModel(t, b, at)]++
		}
	}
	for range 300 {
		b := make([]byte, 600)
		for i := range b {
			b[i] = []byte{1, 2, 3, 1, 63, 192, 'a', 193, byte(draw(256))}[draw(9)]
		}
		for at := range len(b) + 1 {
			told[wantAsModel(t, b, at)]++
		}
	}
	if told[api.OK] == 0 || told[api.ErrForm] == 0 || told[api.ErrLong] == 0 || len(told) != 3 {
		t.Errorf("told: %v", told)
	}
}

func TestReadEndsOfBytesThatAreAlike(t *testing.T) {
	for c := range 256 {
		b := bytes.Repeat([]byte{byte(c)}, 1<<15)
		for _, at := range []int{0, 1, 2, 255, 256, 16383, 16384, 1<<15 - 64, 1<<15 - 1, 1 << 15} {
			wantAsModel(t, b, at)
		}
	}
}

// All texts of few bytes that lengths, pointers and letters are made of.
func TestReadOfAllShortBytes(t *testing.T) {
	kinds := []byte{0, 1, 2, 3, '.', 64, 191, 192}
	for size := range 6 {
		count := 1
		for range size {
			count *= len(kinds)
		}
		for n := range count {
			b := make([]byte, size)
			for i := range b {
				b[i] = kinds[n%len(kinds)]
				n /= len(kinds)
			}
			for at := range size + 1 {
				wantAsModel(t, b, at)
			}
		}
	}
}
