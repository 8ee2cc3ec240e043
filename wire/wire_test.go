package wire_test

import (
	"bytes"
	"math"
	"slices"
	"strings"
	"testing"

	"abatis/api"
	"abatis/label"
	"abatis/wire"
)

const maxTtl = 1<<31 - 1

// four and six are addresses of both families; none is the address that is none.
var (
	four = api.Addr{Fam: 4, B: [16]byte{1, 2, 3, 4}}
	six  = api.Addr{Fam: 6, B: [16]byte{0x20, 1, 0xd, 0xb8, 15: 1}}
	none = api.Addr{}
)

// Records, one of each kind, that may be.

func recordA(name string) api.Record {
	return api.Record{Name: name, Type: api.TypeA, Class: 1, Ttl: 60, Addr: four}
}

func recordAaaa(name string) api.Record {
	return api.Record{Name: name, Type: api.TypeAaaa, Class: 1, Ttl: 60, Addr: six}
}

func recordCname(name, target string) api.Record {
	return api.Record{Name: name, Type: api.TypeCname, Class: 1, Ttl: 60, Target: target}
}

func recordOther(name, data string) api.Record {
	return api.Record{Name: name, Type: 16, Class: 1, Ttl: 60, Data: data}
}

func ofEachKind() []api.Record {
	return []api.Record{recordA("a"), recordAaaa("a"), recordCname("a", "b"), recordOther("a", "xy")}
}

// of is so many bytes.
func of(n int) string { return strings.Repeat("a", n) }

// long is a name of so many bytes, from 195 to 257.
func long(size int) string { return of(63) + "." + of(63) + "." + of(63) + "." + of(size-194) }

// badNames is names of which none may be.
func badNames() []string {
	return []string{".", "..", "a.", ".a", "a..b", of(64), "a." + of(64), long(256), long(257), of(1 << 10)}
}

// goodNames is names that may be.
func goodNames() []string {
	return []string{"", "a", "A", "a.b", "www.example.test", "\x00", "\xff.\xc0", "a b", of(63), long(254), long(255)}
}

// inEach is messages that have the records in Answers, in Authority and in More.
func inEach(l ...api.Record) []api.Msg {
	return []api.Msg{{Answers: l}, {Authority: l}, {More: l}}
}

// cat is all pieces one behind the other: a number's lowest byte, a sign's, a text or bytes.
func cat(pieces ...any) []byte {
	var b []byte
	for _, p := range pieces {
		switch x := p.(type) {
		case int:
			b = append(b, byte(x))
		case rune:
			b = append(b, byte(x))
		case string:
			b = append(b, x...)
		case []byte:
			b = append(b, x...)
		default:
			panic("no such piece")
		}
	}
	return b
}

// first is a message's first twelve bytes.
func first(id, flags, asked, answers, authority, more int) []byte {
	var b []byte
	for _, n := range []int{id, flags, asked, answers, authority, more} {
		b = append(b, byte(n>>8), byte(n))
	}
	return b
}

func wantWrite(t *testing.T, m api.Msg, want []byte) {
	t.Helper()
	if !wire.May(m) {
		t.Errorf("May(%v): false", m)
	}
	if b, e := wire.Write(m); e != api.OK || !bytes.Equal(b, want) {
		t.Errorf("Write(%v): %v, %v, want %v", m, b, e, want)
	}
}

func wantRead(t *testing.T, b []byte, want api.Msg) {
	t.Helper()
	m, e := wire.Read(b)
	if e != api.OK || !equal(m, want) {
		t.Errorf("Read(%v): %v, %v, want %v", b, m, e, want)
	}
}

// wantBoth asks that a message is written as these bytes, and that they are read as the message.
func wantBoth(t *testing.T, m api.Msg, b []byte) {
	t.Helper()
	wantWrite(t, m, b)
	wantRead(t, b, m)
}

func wantNoWrite(t *testing.T, m api.Msg, want api.Errno) {
	t.Helper()
	if b, e := wire.Write(m); len(b) != 0 || e != want {
		t.Errorf("Write(%v): %v, %v, want %v", m, b, e, want)
	}
	if may := wire.May(m); may != (want != api.ErrArg) {
		t.Errorf("May(%v): %v", m, may)
	}
}

func wantNoRead(t *testing.T, b []byte, want api.Errno) {
	t.Helper()
	m, e := wire.Read(b)
	if e != want || !equal(m, api.Msg{}) {
		t.Errorf("Read(%v): %v, %v, want %v", b, m, e, want)
	}
}

// equal is Same, worked out field by field.
func equal(a, b api.Msg) bool {
	if a.Id != b.Id || a.Flags != b.Flags || len(a.Asked) != len(b.Asked) {
		return false
	}
	for i, q := range a.Asked {
		if q != b.Asked[i] {
			return false
		}
	}
	other := [][]api.Record{b.Answers, b.Authority, b.More}
	for i, l := range [][]api.Record{a.Answers, a.Authority, a.More} {
		if len(l) != len(other[i]) {
			return false
		}
		for k, r := range l {
			if r != other[i][k] {
				return false
			}
		}
	}
	return true
}

// deep is a copy of a message that shares nothing with it.
func deep(m api.Msg) api.Msg {
	m.Asked = append([]api.Question(nil), m.Asked...)
	m.Answers = append([]api.Record(nil), m.Answers...)
	m.Authority = append([]api.Record(nil), m.Authority...)
	m.More = append([]api.Record(nil), m.More...)
	return m
}

// P9.1, May

func TestMayOfNumbers(t *testing.T) {
	for _, n := range []int{math.MinInt, -1 << 32, -65536, -1, 0, 1, 255, 256, 32767, 32768, 65534, 65535, 65536, 65537, 1 << 32, 1<<32 + 1, math.MaxInt} {
		want := n >= 0 && n <= 65535
		for i, m := range []api.Msg{
			{Id: n},
			{Flags: n},
			{Asked: []api.Question{{Type: n}}},
			{Asked: []api.Question{{Class: n}}},
			{Asked: []api.Question{{Name: "a", Type: 1, Class: 1}, {Name: "a", Type: n, Class: 1}}},
			{Asked: []api.Question{{Name: "a", Type: 1, Class: 1}, {Name: "a", Type: 1, Class: n}}},
		} {
			if got := wire.May(m); got != want {
				t.Errorf("May of %d at %d: %v", n, i, got)
			}
		}
		for _, r := range ofEachKind() {
			r.Class = n
			wantMayRecord(t, r, want)
		}
		if n != api.TypeA && n != api.TypeAaaa {
			wantMayRecord(t, api.Record{Type: n}, want)
		}
	}
}

// wantMayRecord asks whether a record may be, in each list, alone and behind one that may be.
func wantMayRecord(t *testing.T, r api.Record, want bool) {
	t.Helper()
	for _, m := range append(inEach(r), inEach(recordA("z"), r)...) {
		if got := wire.May(m); got != want {
			t.Errorf("May(%v): %v", m, got)
		}
		if !want {
			wantNoWrite(t, m, api.ErrArg)
		}
	}
}

func TestMayOfTtl(t *testing.T) {
	for _, r := range ofEachKind() {
		for _, ttl := range []int{0, 1, 60, 65535, 65536, maxTtl - 1, maxTtl} {
			r.Ttl = ttl
			wantMayRecord(t, r, true)
		}
		for _, ttl := range []int{-1, math.MinInt, -maxTtl, maxTtl + 1, 1 << 32, 1<<32 + 60, math.MaxInt} {
			r.Ttl = ttl
			wantMayRecord(t, r, false)
		}
	}
}

func TestMayOfNames(t *testing.T) {
	for _, name := range goodNames() {
		if m := (api.Msg{Asked: []api.Question{{Name: name}}}); !wire.May(m) {
			t.Errorf("May(%v): false", m)
		}
		for _, r := range ofEachKind() {
			r.Name = name
			wantMayRecord(t, r, true)
		}
		wantMayRecord(t, recordCname("a", name), true)
	}
	for _, name := range badNames() {
		wantNoWrite(t, api.Msg{Asked: []api.Question{{Name: name}}}, api.ErrArg)
		wantNoWrite(t, api.Msg{Asked: []api.Question{{Name: "a"}, {Name: name, Type: 1, Class: 1}}}, api.ErrArg)
		for _, r := range ofEachKind() {
			r.Name = name
			wantMayRecord(t, r, false)
		}
		wantMayRecord(t, recordCname("a", name), false)
	}
}

func TestMayOfAddresses(t *testing.T) {
	later := four
	later.B[4] = 1
	last := four
	last.B[15] = 1
	mapped := api.Addr{Fam: 6, B: [16]byte{10: 255, 11: 255, 12: 1}}
	bytesOfNone := api.Addr{B: [16]byte{1, 2, 3, 4}}
	fours := []api.Addr{four, {Fam: 4}, {Fam: 4, B: [16]byte{255, 255, 255, 255}}}
	sixes := []api.Addr{six, {Fam: 6}, mapped}
	neither := []api.Addr{later, last, bytesOfNone, {B: [16]byte{15: 1}}, {Fam: 5}, {Fam: -4}, {Fam: 16}, {Fam: 1<<32 + 4, B: four.B}}
	try := func(want4, want6, wantOthers bool, l ...api.Addr) {
		t.Helper()
		for _, a := range l {
			r := api.Record{Name: "a", Class: 1, Addr: a}
			r.Type = api.TypeA
			wantMayRecord(t, r, want4)
			r.Type = api.TypeAaaa
			wantMayRecord(t, r, want6)
			for _, kind := range []int{api.TypeCname, 0, 2, 4, 6, 27, 29, 41, 65535} {
				r.Type = kind
				wantMayRecord(t, r, wantOthers)
			}
		}
	}
	try(true, false, false, fours...)
	try(false, true, false, sixes...)
	try(false, false, true, none)
	try(false, false, false, neither...)
}

func TestMayOfTargetAndDataThatAreNotOfTheType(t *testing.T) {
	for _, r := range ofEachKind() {
		wantMayRecord(t, r, true)
		if r.Type != api.TypeCname {
			for _, target := range []string{"a", "a.b", ".", of(64)} {
				r.Target = target
				wantMayRecord(t, r, false)
			}
			r.Target = ""
		}
		if r.Type == 16 {
			continue
		}
		for _, data := range []string{"a", "\x00", "\x01\x02\x03\x04", of(65536)} {
			r.Data = data
			wantMayRecord(t, r, false)
		}
	}
}

func TestMayOfData(t *testing.T) {
	for _, kind := range []int{0, 2, 4, 6, 16, 27, 29, 41, 65535} {
		for _, size := range []int{0, 1, 4, 16, 1209, 1210, 65534, 65535} {
			wantMayRecord(t, api.Record{Type: kind, Data: of(size)}, true)
		}
		for _, size := range []int{65536, 65537, 1 << 17} {
			wantMayRecord(t, api.Record{Type: kind, Data: of(size)}, false)
		}
	}
}

func TestMayOfManyRecords(t *testing.T) {
	// More than two bytes can count: such a message may be, but its bytes are too many.
	many := slices.Repeat([]api.Record{{Type: 2}}, 1<<16)
	for _, m := range inEach(many...) {
		if _, e := wire.Write(m); e != api.ErrLong || !wire.May(m) {
			t.Error("a message of 65536 records:", e)
		}
	}
	m := api.Msg{Asked: make([]api.Question, 1<<16)}
	if _, e := wire.Write(m); e != api.ErrLong || !wire.May(m) {
		t.Error("a message of 65536 that were asked:", e)
	}
}

// P9.1, Write and Read of what may be

func TestNothing(t *testing.T) {
	wantBoth(t, api.Msg{}, make([]byte, 12))
	wantBoth(t, api.Msg{Asked: []api.Question{}, Answers: []api.Record{}, Authority: []api.Record{}, More: []api.Record{}}, make([]byte, 12))
}

func TestFirstTwelveBytes(t *testing.T) {
	for _, n := range []int{0, 1, 127, 128, 255, 256, 257, 0x1234, 32767, 32768, 33152, 65280, 65534, 65535} {
		wantBoth(t, api.Msg{Id: n}, first(n, 0, 0, 0, 0, 0))
		wantBoth(t, api.Msg{Flags: n}, first(0, n, 0, 0, 0, 0))
	}
	wantBoth(t, api.Msg{Id: 0x0102, Flags: 0x0304}, []byte{1, 2, 3, 4, 0, 0, 0, 0, 0, 0, 0, 0})
	one := cat(0, 0, 2, 0, 1, 0, 0, 0, 0, 0, 0)
	r := api.Record{Type: 2, Class: 1}
	wantBoth(t, api.Msg{Asked: []api.Question{{Type: 2, Class: 1}}}, cat(first(0, 0, 1, 0, 0, 0), 0, 0, 2, 0, 1))
	wantBoth(t, api.Msg{Answers: []api.Record{r}}, cat(first(0, 0, 0, 1, 0, 0), one))
	wantBoth(t, api.Msg{Authority: []api.Record{r}}, cat(first(0, 0, 0, 0, 1, 0), one))
	wantBoth(t, api.Msg{More: []api.Record{r}}, cat(first(0, 0, 0, 0, 0, 1), one))
}

func TestAsked(t *testing.T) {
	wantBoth(t, wire.Ask(1, "a", api.TypeA), []byte{0, 1, 1, 0, 0, 1, 0, 0, 0, 0, 0, 0, 1, 97, 0, 0, 1, 0, 1})
	wantBoth(t, api.Msg{Asked: []api.Question{{Name: "ab.c", Type: 0x0102, Class: 0x0304}}}, cat(first(0, 0, 1, 0, 0, 0), 2, "ab", 1, "c", 0, 1, 2, 3, 4))
	wantBoth(t, api.Msg{Asked: []api.Question{{Name: "", Type: 65535, Class: 0}}}, cat(first(0, 0, 1, 0, 0, 0), 0, 255, 255, 0, 0))
	wantBoth(t, api.Msg{Asked: []api.Question{{Name: "a", Type: 1, Class: 65535}, {Name: "b", Type: 28, Class: 1}, {Name: "", Type: 5, Class: 1}}},
		cat(first(0, 0, 3, 0, 0, 0), 1, "a", 0, 0, 1, 255, 255, 1, "b", 0, 0, 28, 0, 1, 0, 0, 5, 0, 1))
}

// lists is what a message of the records is, in each list, and the first twelve bytes of that.
func lists(l ...api.Record) ([]api.Msg, [][]byte) {
	n := len(l)
	return inEach(l...), [][]byte{first(0, 0, 0, n, 0, 0), first(0, 0, 0, 0, n, 0), first(0, 0, 0, 0, 0, n)}
}

// wantRecords asks for the bytes of records, in each list.
func wantRecords(t *testing.T, b []byte, l ...api.Record) {
	t.Helper()
	messages, begin := lists(l...)
	for i, m := range messages {
		wantBoth(t, m, cat(begin[i], b))
	}
}

func TestRecordOfEachKind(t *testing.T) {
	wantRecords(t, cat(1, "a", 0, 0, 1, 0, 1, 0, 0, 0, 60, 0, 4, 1, 2, 3, 4), recordA("a"))
	wantRecords(t, cat(1, "a", 0, 0, 28, 0, 1, 0, 0, 0, 60, 0, 16, 0x20, 1, 0xd, 0xb8, 0, 0, 0, 0, 0, 0, 0, 0, 0, 0, 0, 1), recordAaaa("a"))
	wantRecords(t, cat(1, "a", 0, 0, 5, 0, 1, 0, 0, 0, 60, 0, 3, 1, "b", 0), recordCname("a", "b"))
	wantRecords(t, cat(1, "a", 0, 0, 16, 0, 1, 0, 0, 0, 60, 0, 2, "xy"), recordOther("a", "xy"))
	wantRecords(t, cat(0, 0, 41, 4, 208, 0, 0, 0, 0, 0, 0), api.Record{Type: 41, Class: 1232})
}

func TestRecordsOfOtherTypesAreNotOfTheKnownOnes(t *testing.T) {
	for _, kind := range []int{0, 2, 4, 6, 27, 29, 256 + 1, 256 + 5, 256 + 28, 1 << 8, 5 << 8, 28 << 8, 65535} {
		for _, data := range []string{"", "a", "\x01\x02\x03\x04", "\xc0\x00", of(16), "\x00"} {
			r := api.Record{Name: "a", Type: kind, Class: 1, Data: data}
			wantRecords(t, cat(1, "a", 0, kind>>8, kind, 0, 1, 0, 0, 0, 0, 0, len(data), data), r)
		}
	}
}

func TestClassOfARecordChangesNothingOfItsData(t *testing.T) {
	for _, class := range []int{0, 1, 3, 255, 256, 65535} {
		a, c := recordA("a"), recordCname("a", "b")
		a.Class, c.Class = class, class
		wantRecords(t, cat(1, "a", 0, 0, 1, class>>8, class, 0, 0, 0, 60, 0, 4, 1, 2, 3, 4), a)
		wantRecords(t, cat(1, "a", 0, 0, 5, class>>8, class, 0, 0, 0, 60, 0, 3, 1, "b", 0), c)
	}
}

func TestTtl(t *testing.T) {
	for _, ttl := range []int{0, 1, 255, 256, 65535, 65536, 0x01020304, 1<<24 - 1, 1 << 24, 604800, 604801, maxTtl - 1, maxTtl} {
		for _, r := range ofEachKind() {
			r.Ttl = ttl
			b, e := wire.Write(api.Msg{Answers: []api.Record{r}})
			if e != api.OK || !bytes.Equal(b[19:23], []byte{byte(ttl >> 24), byte(ttl >> 16), byte(ttl >> 8), byte(ttl)}) {
				t.Errorf("a Ttl of %d: %v, %v", ttl, b, e)
			}
			wantRead(t, b, api.Msg{Answers: []api.Record{r}})
		}
	}
}

func TestTtlThatIsAboveCountsAsNone(t *testing.T) {
	for _, ttl := range [][]byte{{128, 0, 0, 0}, {128, 0, 0, 1}, {255, 255, 255, 255}, {128, 0, 0, 60}, {192, 1, 2, 3}} {
		for _, r := range ofEachKind() {
			b, _ := wire.Write(api.Msg{More: []api.Record{r, r}})
			copy(b[19:23], ttl)
			none := r
			none.Ttl = 0
			wantRead(t, b, api.Msg{More: []api.Record{none, r}})
		}
	}
}

func TestAllAddresses(t *testing.T) {
	for i := range 16 {
		for _, c := range []byte{0, 1, 127, 128, 255} {
			a := six
			a.B[i] = c
			wantRecords(t, cat(0, 0, 28, 0, 0, 0, 0, 0, 0, 0, 16, a.B[:]), api.Record{Type: api.TypeAaaa, Addr: a})
			if i < 4 {
				a = four
				a.B[i] = c
				wantRecords(t, cat(0, 0, 1, 0, 0, 0, 0, 0, 0, 0, 4, a.B[:4]), api.Record{Type: api.TypeA, Addr: a})
			}
		}
	}
	// An address that is mapped stays of its family.
	mapped := api.Addr{Fam: 6, B: [16]byte{10: 255, 11: 255, 12: 1, 13: 2, 14: 3, 15: 4}}
	wantRecords(t, cat(0, 0, 28, 0, 0, 0, 0, 0, 0, 0, 16, mapped.B[:]), api.Record{Type: api.TypeAaaa, Addr: mapped})
}

func TestData(t *testing.T) {
	for _, size := range []int{0, 1, 2, 4, 16, 63, 64, 255, 256, 257, 1000, 1209} {
		r := api.Record{Type: 41, Data: strings.Repeat("\xc0", size)}
		wantRecords(t, cat(0, 0, 41, 0, 0, 0, 0, 0, 0, size>>8, size, r.Data), r)
	}
	all := ""
	for c := range 256 {
		all += string([]byte{byte(c)})
	}
	wantRecords(t, cat(0, 0, 41, 0, 0, 0, 0, 0, 0, 1, 0, all), api.Record{Type: 41, Data: all})
}

func TestSeveralOfEach(t *testing.T) {
	m := api.Msg{
		Id: 0xabcd, Flags: 0x8183,
		Asked:     []api.Question{{Name: "x", Type: 1, Class: 1}, {Name: "y", Type: 28, Class: 3}},
		Answers:   []api.Record{recordA("x"), recordCname("x", "y"), recordA("y")},
		Authority: []api.Record{recordOther("", "ns"), recordAaaa("")},
		More:      []api.Record{recordCname("y", ""), recordOther("y", ""), recordA(""), recordAaaa("x")},
	}
	sixty := cat(0, 1, 0, 0, 0, 60)
	b := cat(first(0xabcd, 0x8183, 2, 3, 2, 4),
		1, "x", 0, 0, 1, 0, 1, // at 12
		1, "y", 0, 0, 28, 0, 3, // at 19
		192, 12, 0, 1, sixty, 0, 4, 1, 2, 3, 4,
		192, 12, 0, 5, sixty, 0, 2, 192, 19,
		192, 19, 0, 1, sixty, 0, 4, 1, 2, 3, 4,
		0, 0, 16, sixty, 0, 2, "ns",
		0, 0, 28, sixty, 0, 16, six.B[:],
		192, 19, 0, 5, sixty, 0, 1, 0,
		192, 19, 0, 16, sixty, 0, 0,
		0, 0, 1, sixty, 0, 4, 1, 2, 3, 4,
		192, 12, 0, 28, sixty, 0, 16, six.B[:])
	wantBoth(t, m, b)
}

// P9.1, names that are shortened

func TestNamesShortenedFromWhatWasAsked(t *testing.T) {
	m := api.Msg{
		Asked:     []api.Question{{Name: "www.b", Type: 1, Class: 1}, {Name: "x.www.b", Type: 1, Class: 1}, {Name: "www.b", Type: 2, Class: 1}},
		Answers:   []api.Record{{Name: "www.b", Type: 2}},
		Authority: []api.Record{{Name: "b", Type: 2}},
		More:      []api.Record{{Name: "y.x.www.b", Type: 2}},
	}
	rest := cat(0, 2, 0, 0, 0, 0, 0, 0, 0, 0)
	wantBoth(t, m, cat(first(0, 0, 3, 1, 1, 1),
		3, "www", 1, "b", 0, 0, 1, 0, 1, // www.b at 12, b at 16
		1, "x", 192, 12, 0, 1, 0, 1, // at 23
		192, 12, 0, 2, 0, 1,
		192, 12, rest, 192, 16, rest, 1, "y", 192, 23, rest))
}

func TestNamesShortenedFromARecordsName(t *testing.T) {
	m := api.Msg{
		Answers:   []api.Record{{Name: "a.b", Type: 2}, {Name: "a.b", Type: 2}},
		Authority: []api.Record{{Name: "c.b", Type: 2}},
		More:      []api.Record{recordCname("c.b", "d.c.b")},
	}
	rest := cat(0, 2, 0, 0, 0, 0, 0, 0, 0, 0)
	wantBoth(t, m, cat(first(0, 0, 0, 2, 1, 1),
		1, "a", 1, "b", 0, rest, // a.b at 12, b at 14
		192, 12, rest,
		1, "c", 192, 14, rest, // at 39
		192, 39, 0, 5, 0, 1, 0, 0, 0, 60, 0, 4, 1, "d", 192, 39))
}

func TestNamesShortenedFromATarget(t *testing.T) {
	m := api.Msg{
		Answers: []api.Record{recordCname("", "a.b"), recordCname("a.b", "c.a.b"), recordCname("b", "c.a.b")},
		More:    []api.Record{recordA("c.a.b"), recordA("d.b")},
	}
	begin := cat(0, 5, 0, 1, 0, 0, 0, 60, 0)
	rest := cat(0, 1, 0, 1, 0, 0, 0, 60, 0, 4, 1, 2, 3, 4)
	wantBoth(t, m, cat(first(0, 0, 0, 3, 0, 2),
		0, begin, 5, 1, "a", 1, "b", 0, // a.b at 23, b at 25
		192, 23, begin, 4, 1, "c", 192, 23, // at 40
		192, 25, begin, 2, 192, 40,
		192, 40, rest,
		1, "d", 192, 25, rest))
}

func TestATargetThatIsItsRecordsName(t *testing.T) {
	wantRecords(t, cat(1, "a", 0, 0, 5, 0, 1, 0, 0, 0, 60, 0, 2, 192, 12), recordCname("a", "a"))
}

func TestTargetOfNoLabel(t *testing.T) {
	wantRecords(t, cat(1, "a", 0, 0, 5, 0, 1, 0, 0, 0, 60, 0, 1, 0), recordCname("a", ""))
	wantRecords(t, cat(0, 0, 5, 0, 1, 0, 0, 0, 60, 0, 1, 0), recordCname("", ""))
}

func TestNamesAreShortenedOnlyByteByByte(t *testing.T) {
	wantBoth(t, api.Msg{Asked: []api.Question{{Name: "a"}, {Name: "A"}, {Name: "A"}}},
		cat(first(0, 0, 3, 0, 0, 0), 1, "a", 0, 0, 0, 0, 0, 1, "A", 0, 0, 0, 0, 0, 192, 19, 0, 0, 0, 0))
}

func TestDataIsNoNameThatShortens(t *testing.T) {
	m := api.Msg{Answers: []api.Record{{Type: 2, Data: "\x01a\x00"}, {Name: "a", Type: 2}}}
	wantBoth(t, m, cat(first(0, 0, 0, 2, 0, 0), 0, 0, 2, 0, 0, 0, 0, 0, 0, 0, 3, 1, "a", 0, 1, "a", 0, 0, 2, 0, 0, 0, 0, 0, 0, 0, 0))
}

func TestTargetsOfAllSizes(t *testing.T) {
	for size := 195; size <= 255; size++ {
		name := long(size)
		whole, _ := label.Bytes(name)
		wantRecords(t, cat(0, 0, 5, 0, 1, 0, 0, 0, 60, 0, size, whole), recordCname("", name))
	}
}

func TestNamesThatAreReadWithoutTheWritersPointers(t *testing.T) {
	// None is shortened; one is shortened to a pointer alone; one goes on into bytes that no name was written at.
	wantRead(t, cat(first(0, 0, 2, 0, 0, 0), 1, "a", 0, 0, 1, 0, 1, 1, "a", 0, 0, 1, 0, 1),
		api.Msg{Asked: []api.Question{{Name: "a", Type: 1, Class: 1}, {Name: "a", Type: 1, Class: 1}}})
	wantRead(t, cat(first(0, 0, 1, 0, 0, 0), 192, 0, 0, 1, 0, 1), api.Msg{Asked: []api.Question{{Type: 1, Class: 1}}})
	wantRead(t, cat(first(0x0161, 0, 1, 0, 0, 0), 1, "b", 192, 0, 0, 1, 0, 1), api.Msg{Id: 0x0161, Asked: []api.Question{{Name: "b.a", Type: 1, Class: 1}}})
	// A Target leads into data of another Type.
	wantRead(t, cat(first(0, 0, 0, 2, 0, 0), 0, 0, 2, 0, 0, 0, 0, 0, 0, 0, 3, 1, "a", 0, 0, 0, 5, 0, 0, 0, 0, 0, 0, 0, 2, 192, 23),
		api.Msg{Answers: []api.Record{{Type: 2, Data: "\x01a\x00"}, {Type: 5, Target: "a"}}})
}

// P9.1, how many bytes there may be

func TestMessagesOf1232Bytes(t *testing.T) {
	for _, size := range []int{1231, 1232, 1233, 1234, 65535, 65536 + 12} {
		m := api.Msg{More: []api.Record{{Type: 41, Data: of(min(size-23, 65535))}}}
		b := cat(first(0, 0, 0, 0, 0, 1), 0, 0, 41, 0, 0, 0, 0, 0, 0, (size-23)>>8, size-23, m.More[0].Data)
		if size <= api.MaxMsg {
			wantBoth(t, m, b)
		} else {
			wantNoWrite(t, m, api.ErrLong)
			wantNoRead(t, b, api.ErrLong)
		}
	}
}

func TestMessagesOf1232BytesOfEachPart(t *testing.T) {
	// What brings a message to its last byte is one that was asked, or a record of each kind.
	room := func(size int) api.Record { return api.Record{Type: 41, Data: of(size - 11)} }
	for _, r := range ofEachKind() {
		r.Name = ""
		alone, _ := wire.Write(api.Msg{Answers: []api.Record{r}})
		left := api.MaxMsg - len(alone)
		for _, m := range []api.Msg{
			{Answers: []api.Record{room(left), r}},
			{Answers: []api.Record{room(left)}, Authority: []api.Record{r}},
			{Authority: []api.Record{room(left)}, More: []api.Record{r}},
			{Answers: []api.Record{r}, More: []api.Record{room(left)}},
		} {
			b, e := wire.Write(m)
			if e != api.OK || len(b) != api.MaxMsg {
				t.Errorf("%d bytes, %v", len(b), e)
			}
			wantRead(t, b, m)
			m.Id++
			m.Asked = append(m.Asked, api.Question{})
			wantNoWrite(t, m, api.ErrLong)
			m.Asked = nil
			m.More = append(m.More, api.Record{})
			wantNoWrite(t, m, api.ErrLong)
		}
		wantNoWrite(t, api.Msg{Answers: []api.Record{room(left + 1), r}}, api.ErrLong)
		wantNoWrite(t, api.Msg{Answers: []api.Record{r}, More: []api.Record{room(left + 1)}}, api.ErrLong)
	}
	asked := api.Msg{Asked: make([]api.Question, 244)}
	b, e := wire.Write(asked)
	if e != api.OK || len(b) != api.MaxMsg {
		t.Errorf("%d bytes, %v", len(b), e)
	}
	wantRead(t, b, asked)
	wantNoWrite(t, api.Msg{Asked: make([]api.Question, 245)}, api.ErrLong)
}

func TestShortenedNamesCountAsTheyAreWritten(t *testing.T) {
	// Unshortened these would be far more bytes than there may be.
	name := long(255)
	m := api.Msg{Asked: []api.Question{{Name: name}}}
	for range (api.MaxMsg - 12 - 259) / 12 {
		m.Answers = append(m.Answers, api.Record{Name: name, Type: 2})
	}
	b, e := wire.Write(m)
	if e != api.OK || len(b) > api.MaxMsg || len(b) < api.MaxMsg-12 {
		t.Errorf("%d bytes, %v", len(b), e)
	}
	wantRead(t, b, m)
	m.Answers = append(m.Answers, api.Record{Name: name, Type: 2})
	wantNoWrite(t, m, api.ErrLong)
}

func TestWhatMayNotBeIsToldAheadOfTooManyBytes(t *testing.T) {
	big := api.Record{Type: 41, Data: of(2000)}
	bad := api.Record{Type: 41, Ttl: -1}
	for _, m := range []api.Msg{
		{Id: -1, More: []api.Record{big}},
		{Answers: []api.Record{big, bad}},
		{Answers: []api.Record{big}, Authority: []api.Record{bad}},
		{Answers: []api.Record{big}, More: []api.Record{bad}},
		{Asked: []api.Question{{Name: "."}}, Answers: []api.Record{big}},
		{More: []api.Record{{Type: 41, Data: of(65536)}}},
	} {
		wantNoWrite(t, m, api.ErrArg)
	}
	wantNoWrite(t, api.Msg{Answers: []api.Record{big}}, api.ErrLong)
	wantNoWrite(t, api.Msg{More: []api.Record{{Type: 41, Data: of(65535)}}}, api.ErrLong)
}

func TestTooManyBytesAreToldAheadOfWhatTheyAre(t *testing.T) {
	for _, b := range [][]byte{
		make([]byte, 1233),
		make([]byte, 1<<16),
		bytes.Repeat([]byte{255}, 1233),
		cat(first(0, 0, 1, 0, 0, 0), 64, make([]byte, 1220)),
	} {
		wantNoRead(t, b, api.ErrLong)
	}
	for _, b := range [][]byte{
		make([]byte, 1232),
		bytes.Repeat([]byte{255}, 1232),
		cat(first(0, 0, 1, 0, 0, 0), 64, make([]byte, 1219)),
	} {
		wantNoRead(t, b, api.ErrForm)
	}
}
