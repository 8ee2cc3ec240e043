package wire_test

import (
	"bytes"
	"slices"
	"strings"
	"testing"

	"abatis/api"
	"abatis/label"
	"abatis/wire"
)

// whole is a message with all that a message may have.
func whole() api.Msg {
	return api.Msg{
		Id: 7, Flags: 33152,
		Asked:     []api.Question{{Name: "www.b", Type: 1, Class: 1}},
		Answers:   []api.Record{recordCname("www.b", "c.b"), recordA("c.b"), recordAaaa("c.b")},
		Authority: []api.Record{recordOther("b", "abc"), recordCname("b", "")},
		More:      []api.Record{recordA("d.c.b"), recordOther("", "last")},
	}
}

// P9.1, wrong bytes

func TestBytesThatEnd(t *testing.T) {
	b, e := wire.Write(whole())
	if e != api.OK {
		t.Fatal(e)
	}
	for i := range b {
		wantNoRead(t, b[:i], api.ErrForm)
		// What stands behind the end, in the same memory, is not read.
		wantNoRead(t, append(make([]byte, 0, len(b)), b[:i]...), api.ErrForm)
	}
	wantNoRead(t, nil, api.ErrForm)
	wantNoRead(t, []byte{}, api.ErrForm)
}

func TestBytesThatEndWithinEachPart(t *testing.T) {
	for i := range 12 {
		wantNoRead(t, make([]byte, i), api.ErrForm)
		wantNoRead(t, bytes.Repeat([]byte{255}, i), api.ErrForm)
	}
	for _, x := range [][]byte{
		{3, 'a', 'b', 'c', 0, 0, 1, 0}, // within its class
		{192, 0, 0, 1, 0},              // likewise, behind a pointer
		{0, 0, 1},                      // ahead of it
		{0, 0},                         // within its type
		{0},                            // ahead of it
		{},                             // ahead of its name
		{3},                            // ahead of its label's bytes
		{3, 'a', 'b'},                  // within them
		{3, 'a', 'b', 'c'},             // ahead of its 0
		{1, 'a', 192},                  // within a pointer
	} {
		wantNoRead(t, cat(first(0, 0, 1, 0, 0, 0), x), api.ErrForm)
	}
	// A name that never ends is too long ahead of the bytes' end.
	wantNoRead(t, cat(first(0, 0, 1, 0, 0, 0), bytes.Repeat([]byte{1}, 1219)), api.ErrLong)
}

func TestBytesThatEndWithinARecordsNumbersAndData(t *testing.T) {
	for _, r := range ofEachKind() {
		messages, _ := lists(r)
		for _, m := range messages {
			b, _ := wire.Write(m)
			for i := 12; i < len(b); i++ {
				wantNoRead(t, b[:i], api.ErrForm)
			}
		}
	}
}

func TestMoreBytesBehind(t *testing.T) {
	b, _ := wire.Write(whole())
	for _, more := range [][]byte{{0}, {1}, {255}, {0, 0}, make([]byte, 12), b, make([]byte, api.MaxMsg-len(b))} {
		wantNoRead(t, cat(b, more), api.ErrForm)
	}
	for _, m := range []api.Msg{{}, wire.Ask(1, "a", 1), {More: []api.Record{{Type: 2}}}} {
		b, _ := wire.Write(m)
		wantNoRead(t, cat(b, 0), api.ErrForm)
		wantNoRead(t, cat(b, 192, 0), api.ErrForm)
	}
}

func TestFewerThanAreTold(t *testing.T) {
	b, _ := wire.Write(whole())
	for at := 4; at < 12; at++ {
		for _, c := range []byte{1, 2, 3, 4, 5, 128, 255} {
			x := bytes.Clone(b)
			if x[at] == c {
				continue
			}
			x[at] = c
			m, e := wire.Read(x)
			// A list that is told to have more takes from the next one, or from nothing.
			if e == api.OK || !equal(m, api.Msg{}) {
				t.Errorf("%d at %d: %v, %v", c, at, m, e)
			}
		}
	}
	for _, n := range []int{1, 2, 256, 65535} {
		wantNoRead(t, first(0, 0, n, 0, 0, 0), api.ErrForm)
		wantNoRead(t, first(0, 0, 0, n, 0, 0), api.ErrForm)
		wantNoRead(t, first(0, 0, 0, 0, n, 0), api.ErrForm)
		wantNoRead(t, first(0, 0, 0, 0, 0, n), api.ErrForm)
		wantNoRead(t, cat(first(0, 0, n+1, 0, 0, 0)[:12], slices.Repeat([]byte{0}, 5)), api.ErrForm)
	}
}

func TestMoreThanAreTold(t *testing.T) {
	b, _ := wire.Write(whole())
	for at := 5; at < 12; at += 2 {
		for b[at] > 0 {
			b[at]--
			if m, e := wire.Read(b); e != api.ErrForm || !equal(m, api.Msg{}) {
				t.Errorf("%d at %d: %v, %v", b[at], at, m, e)
			}
		}
	}
}

// record is the bytes of a record without a name, with another size than its data has.
func record(kind, size int, data ...any) []byte {
	return cat(0, kind>>8, kind, 0, 1, 0, 0, 0, 60, size>>8, size, cat(data...))
}

// wantNoRecord asks for an error of a record, in each list, alone and ahead of others.
func wantNoRecord(t *testing.T, b []byte, want api.Errno) {
	t.Helper()
	_, begin := lists(api.Record{})
	for _, x := range begin {
		wantNoRead(t, cat(x, b), want)
	}
	_, begin = lists(api.Record{}, api.Record{})
	for _, x := range begin {
		wantNoRead(t, cat(x, b, record(2, 0)), want)
		wantNoRead(t, cat(x, record(2, 0), b), want)
	}
}

func TestAddressesOfOtherSizes(t *testing.T) {
	for size := range 40 {
		data := make([]byte, size)
		if size != 4 {
			wantNoRecord(t, record(api.TypeA, size, data), api.ErrForm)
		}
		if size != 16 {
			wantNoRecord(t, record(api.TypeAaaa, size, data), api.ErrForm)
		}
	}
	// The size that is told counts, not how many bytes are there.
	for _, size := range []int{0, 3, 5, 16, 260, 1028, 65535} {
		wantNoRead(t, cat(first(0, 0, 0, 1, 0, 0), record(api.TypeA, size, 1, 2, 3, 4)), api.ErrForm)
	}
	for _, size := range []int{0, 4, 15, 17, 272, 65535} {
		wantNoRead(t, cat(first(0, 0, 0, 1, 0, 0), record(api.TypeAaaa, size, six.B[:])), api.ErrForm)
	}
}

func TestTargetsThatDoNotEndWhereTheDataDoes(t *testing.T) {
	for _, x := range []struct {
		size int
		data []byte
	}{
		{0, []byte{}},
		{0, []byte{0}},
		{1, []byte{1, 'a', 0}},
		{2, []byte{1, 'a', 0}},
		{4, []byte{1, 'a', 0}},
		{4, []byte{1, 'a', 0, 0}},
		{2, []byte{0, 0}},
		{2, []byte{0}},
		{1, []byte{192, 0}},
		{3, []byte{192, 0, 0}},
		{3, []byte{192, 0}},
		{3, []byte{1, 'a', 192, 0}},
		{5, []byte{1, 'a', 192, 0, 0}},
		{256, []byte{0}},
		{256 + 3, []byte{1, 'a', 0}},
		{65535, []byte{1, 'a', 0}},
		{6, []byte{1, 'a', 0, 1, 'b', 0}},
	} {
		wantNoRecord(t, record(api.TypeCname, x.size, x.data), api.ErrForm)
	}
	for _, size := range []int{1, 3, 2, 4} {
		// Where the pointer leads to is not where the name ends.
		wantRead(t, cat(first(0, 0, 0, 1, 0, 0), record(api.TypeCname, 2, 192, 0)), api.Msg{Answers: []api.Record{{Type: 5, Class: 1, Ttl: 60}}})
		if size != 2 {
			wantNoRead(t, cat(first(0, 0, 0, 1, 0, 0), record(api.TypeCname, size, 192, 0)), api.ErrForm)
		}
	}
}

func TestTargetThatTakesTheNextRecordsBytes(t *testing.T) {
	// The data ends within the name, whose bytes go on in what would be the next record.
	next := record(2, 0)
	b := cat(first(0, 0, 0, 2, 0, 0), record(api.TypeCname, 2, 1, 'a'), next)
	wantNoRead(t, b, api.ErrForm)
	wantRead(t, cat(first(0, 0, 0, 2, 0, 0), record(api.TypeCname, 3, 1, 'a', 0), next),
		api.Msg{Answers: []api.Record{{Type: 5, Class: 1, Ttl: 60, Target: "a"}, {Type: 2, Class: 1, Ttl: 60}}})
}

// tooLong is the bytes of a name that is too long.
func tooLong() []byte {
	label := cat(63, of(63))
	return cat(label, label, label, label, 0)
}

// badForms is bytes of names that are not of their form, as they stand behind the first twelve.
func badForms() [][]byte {
	return [][]byte{{64, 0}, {128, 0}, {191, 0}, {192, 12}, {192, 200}, {255, 255}, {1, '.', 0}, {3, 'a', '.', 'b', 0}, {1, 'a', 64, 0}, {1, 'a', 192, 12}, {1, 'a', 192, 13}}
}

func TestNamesThatAreNotOfTheirForm(t *testing.T) {
	rest := cat(0, 2, 0, 1, 0, 0, 0, 60, 0, 0)
	for _, name := range badForms() {
		wantNoRead(t, cat(first(0, 0, 1, 0, 0, 0), name, 0, 1, 0, 1), api.ErrForm)
		_, begin := lists(api.Record{})
		for _, x := range begin {
			wantNoRead(t, cat(x, name, rest), api.ErrForm)
		}
	}
	for _, name := range [][]byte{{64, 0}, {191, 0}, {255, 255}, {1, '.', 0}, {1, 'a', 64, 0}} {
		wantNoRecord(t, record(api.TypeCname, len(name), name), api.ErrForm)
	}
	// Of the first record the Target begins at 23: a pointer there must lead to a place ahead of that.
	for _, name := range [][]byte{{192, 23}, {192, 24}, {192, 25}, {1, 'a', 192, 23}, {1, 'a', 192, 25}} {
		wantNoRead(t, cat(first(0, 0, 0, 1, 0, 0), record(api.TypeCname, len(name), name)), api.ErrForm)
	}
	wantRead(t, cat(first(0, 0, 0, 1, 0, 0), record(api.TypeCname, 4, 1, 'a', 192, 12)), api.Msg{Answers: []api.Record{{Type: 5, Class: 1, Ttl: 60, Target: "a"}}})
}

func TestNamesThatAreTooLong(t *testing.T) {
	name := tooLong()
	wantNoRead(t, cat(first(0, 0, 1, 0, 0, 0), name, 0, 1, 0, 1), api.ErrLong)
	wantNoRead(t, cat(first(0, 0, 2, 0, 0, 0), 0, 0, 1, 0, 1, name, 0, 1, 0, 1), api.ErrLong)
	_, begin := lists(api.Record{})
	for _, x := range begin {
		wantNoRead(t, cat(x, name, 0, 2, 0, 1, 0, 0, 0, 60, 0, 0), api.ErrLong)
	}
	wantNoRecord(t, record(api.TypeCname, len(name), name), api.ErrLong)
	// One that is too long by what its pointer leads to.
	most, _ := label.Bytes(long(255))
	wantNoRead(t, cat(first(0, 0, 1, 1, 0, 0), most, 0, 1, 0, 1, 1, 'a', 192, 12, 0, 2, 0, 1, 0, 0, 0, 60, 0, 0), api.ErrLong)
	wantNoRead(t, cat(first(0, 0, 1, 1, 0, 0), most, 0, 1, 0, 1, record(api.TypeCname, 4, 1, 'a', 192, 12)), api.ErrLong)
	wantRead(t, cat(first(0, 0, 1, 1, 0, 0), most, 0, 1, 0, 1, record(api.TypeCname, 2, 192, 12)),
		api.Msg{Asked: []api.Question{{Name: long(255), Type: 1, Class: 1}}, Answers: []api.Record{{Type: 5, Class: 1, Ttl: 60, Target: long(255)}}})
	// In data of other Types it is no name.
	wantRead(t, cat(first(0, 0, 0, 1, 0, 0), record(2, len(name), name)), api.Msg{Answers: []api.Record{{Type: 2, Class: 1, Ttl: 60, Data: string(name)}}})
}

func TestWhatIsMetFirst(t *testing.T) {
	name := tooLong()
	rest := cat(0, 1, 0, 1)
	wrong := record(api.TypeA, 3, 1, 2, 3)
	cname := record(api.TypeCname, len(name), name)
	for _, x := range []struct {
		b    []byte
		want api.Errno
	}{
		{cat(first(0, 0, 2, 0, 0, 0), name, rest, 64, rest), api.ErrLong},
		{cat(first(0, 0, 2, 0, 0, 0), 64, rest, name, rest), api.ErrForm},
		{cat(first(0, 0, 1, 1, 0, 0), name, rest, wrong), api.ErrLong},
		{cat(first(0, 0, 1, 1, 0, 0), 64, rest, cname), api.ErrForm},
		{cat(first(0, 0, 0, 2, 0, 0), wrong, cname), api.ErrForm},
		{cat(first(0, 0, 0, 2, 0, 0), cname, wrong), api.ErrLong},
		{cat(first(0, 0, 0, 1, 1, 0), wrong, cname), api.ErrForm},
		{cat(first(0, 0, 0, 1, 1, 0), cname, wrong), api.ErrLong},
		{cat(first(0, 0, 0, 0, 1, 1), wrong, cname), api.ErrForm},
		{cat(first(0, 0, 0, 0, 1, 1), cname, wrong), api.ErrLong},
		// The bytes end, or go on, behind the name that is too long.
		{cat(first(0, 0, 1, 0, 0, 0), name), api.ErrLong},
		{cat(first(0, 0, 1, 0, 0, 0), name, rest, 0), api.ErrLong},
		{cat(first(0, 0, 2, 0, 0, 0), name, rest), api.ErrLong},
		{cat(first(0, 0, 0, 2, 0, 0), cname), api.ErrLong},
		{cat(first(0, 0, 0, 1, 0, 0), cname, 0), api.ErrLong},
		// They end within it.
		{cat(first(0, 0, 1, 0, 0, 0), name[:255]), api.ErrForm},
		// A record's name comes ahead of its data.
		{cat(first(0, 0, 0, 1, 0, 0), name, wrong[1:]), api.ErrLong},
		{cat(first(0, 0, 0, 1, 0, 0), 64, cname[1:]), api.ErrForm},
		// A name that is too long has no end that could be held against the data's.
		{cat(first(0, 0, 0, 1, 0, 0), record(api.TypeCname, 3, name)), api.ErrLong},
		{cat(first(0, 0, 0, 1, 0, 0), record(api.TypeCname, 1000, name)), api.ErrLong},
		// What is too long stands in what is left over.
		{cat(first(0, 0, 0, 0, 0, 0), name), api.ErrForm},
		{cat(first(0, 0, 1, 0, 0, 0), 0, rest, cname), api.ErrForm},
		{cat(first(0, 0, 0, 1, 0, 0), record(api.TypeCname, 1, 0), name), api.ErrForm},
	} {
		wantNoRead(t, x.b, x.want)
	}
}

func TestReadLeavesBytesAsTheyAre(t *testing.T) {
	b, _ := wire.Write(whole())
	was := bytes.Clone(b)
	m, _ := wire.Read(b)
	if !bytes.Equal(b, was) {
		t.Error("Read changed its bytes")
	}
	clear(b)
	if !equal(m, whole()) {
		t.Error("what was read hangs on the bytes:", m)
	}
}

func TestWriteLeavesAMessageAsItIs(t *testing.T) {
	m := whole()
	b, _ := wire.Write(m)
	again, _ := wire.Write(m)
	if !equal(m, whole()) || !bytes.Equal(b, again) {
		t.Error("Write changed its message")
	}
	clear(b)
	third, _ := wire.Write(m)
	if !bytes.Equal(third, again) {
		t.Error("what was written is kept")
	}
	m = api.Msg{Answers: append(make([]api.Record, 0, 4), recordA("a"))}
	wire.Write(m)
	wire.May(m)
	if m.Answers[:2][1] != (api.Record{}) {
		t.Error("Write changed a list's spare room")
	}
}

func TestReadGivesListsThatShareNothing(t *testing.T) {
	r := recordA("a")
	b, _ := wire.Write(api.Msg{Answers: []api.Record{r, r}, Authority: []api.Record{r, r}, More: []api.Record{r, r}})
	m, _ := wire.Read(b)
	m.Answers = append(m.Answers, recordOther("x", "y"))
	m.Answers[0], m.Authority[1] = api.Record{}, api.Record{}
	m.Authority = append(m.Authority, recordOther("x", "y"))
	if m.Answers[1] != r || m.Authority[0] != r || m.More[0] != r || m.More[1] != r {
		t.Error("lists of one message share memory")
	}
}

// P9.1 and P9.3, against a model

// draws is numbers that look like chance, and are the same in every run.
func draws(seed uint64) func(n int) int {
	return func(n int) int {
		seed = seed*6364136223846793005 + 1442695040888963407
		return int(seed>>33) % n
	}
}

// model reads a message as the chapter says it, by panics.
type model struct {
	b  []byte
	at int
}

func (m *model) byte() int {
	if m.at >= len(m.b) {
		panic(api.ErrForm)
	}
	m.at++
	return int(m.b[m.at-1])
}

func (m *model) two() int { return m.byte()*256 + m.byte() }

func (m *model) name() string {
	name, next, e := label.Read(m.b, m.at)
	if e != api.OK {
		panic(e)
	}
	m.at = next
	return name
}

func (m *model) record() api.Record {
	r := api.Record{Name: m.name()}
	r.Type, r.Class = m.two(), m.two()
	r.Ttl = m.two() * 65536
	if r.Ttl += m.two(); r.Ttl >= 1<<31 {
		r.Ttl = 0
	}
	size := m.two()
	end := m.at + size
	if r.Type == 5 {
		if r.Target = m.name(); m.at != end {
			panic(api.ErrForm)
		}
		return r
	}
	var data []byte
	for range size {
		data = append(data, byte(m.byte()))
	}
	switch {
	case r.Type == 1 && size == 4:
		r.Addr = api.Addr{Fam: 4, B: [16]byte{data[0], data[1], data[2], data[3]}}
	case r.Type == 28 && size == 16:
		r.Addr = api.Addr{Fam: 6, B: [16]byte(data)}
	case r.Type == 1 || r.Type == 28:
		panic(api.ErrForm)
	default:
		r.Data = string(data)
	}
	return r
}

func modelRead(b []byte) (out api.Msg, e api.Errno) {
	defer func() {
		if x := recover(); x != nil {
			out, e = api.Msg{}, x.(api.Errno)
		}
	}()
	if len(b) > 1232 {
		panic(api.ErrLong)
	}
	m := &model{b: b}
	out.Id, out.Flags = m.two(), m.two()
	asked, answers, authority, more := m.two(), m.two(), m.two(), m.two()
	for range asked {
		name := m.name()
		kind := m.two()
		out.Asked = append(out.Asked, api.Question{Name: name, Type: kind, Class: m.two()})
	}
	for range answers {
		out.Answers = append(out.Answers, m.record())
	}
	for range authority {
		out.Authority = append(out.Authority, m.record())
	}
	for range more {
		out.More = append(out.More, m.record())
	}
	if m.at != len(b) {
		panic(api.ErrForm)
	}
	return out, api.OK
}

// modelWrite writes a message that may be, each name held against all places that one was written at.
func modelWrite(m api.Msg) []byte {
	var b []byte
	type place struct {
		rest string
		at   int
	}
	var places []place
	two := func(l ...int) {
		for _, n := range l {
			b = append(b, byte(n/256), byte(n%256))
		}
	}
	name := func(s string) {
		for s != "" {
			if i := slices.IndexFunc(places, func(p place) bool { return p.rest == s }); i >= 0 {
				two(192*256 + places[i].at)
				return
			}
			places = append(places, place{s, len(b)})
			l, rest, _ := strings.Cut(s, ".")
			b = append(append(b, byte(len(l))), l...)
			s = rest
		}
		b = append(b, 0)
	}
	two(m.Id, m.Flags, len(m.Asked), len(m.Answers), len(m.Authority), len(m.More))
	for _, q := range m.Asked {
		name(q.Name)
		two(q.Type, q.Class)
	}
	for _, r := range slices.Concat(m.Answers, m.Authority, m.More) {
		name(r.Name)
		two(r.Type, r.Class, r.Ttl/65536, r.Ttl%65536, 0)
		at := len(b)
		switch r.Type {
		case 1:
			b = append(b, r.Addr.B[:4]...)
		case 28:
			b = append(b, r.Addr.B[:]...)
		case 5:
			name(r.Target)
		default:
			b = append(b, r.Data...)
		}
		b[at-2], b[at-1] = byte((len(b)-at)/256), byte((len(b)-at)%256)
	}
	return b
}

// drawn is a message that may be.
func drawn(draw func(int) int) api.Msg {
	labels := []string{"a", "b", "A", "www", "test", "\x00", "\xff\xc0", of(63), "c-d"}
	name := func() string {
		var l []string
		for range draw(4) {
			l = append(l, labels[draw(len(labels))])
		}
		return strings.Join(l, ".")
	}
	number := func() int { return []int{0, 1, 255, 256, 32768, 65535, draw(65536)}[draw(7)] }
	records := func() []api.Record {
		var l []api.Record
		for range draw(5) {
			r := api.Record{Name: name(), Class: number(), Ttl: []int{0, 60, maxTtl, draw(maxTtl)}[draw(4)]}
			switch draw(4) {
			case 0:
				r.Type, r.Addr = 1, api.Addr{Fam: 4, B: [16]byte{byte(draw(256)), byte(draw(256)), byte(draw(256)), byte(draw(256))}}
			case 1:
				r.Type, r.Addr.Fam = 28, 6
				for i := range r.Addr.B {
					r.Addr.B[i] = byte(draw(256))
				}
			case 2:
				r.Type, r.Target = 5, name()
			default:
				r.Type, r.Data = []int{0, 2, 16, 41, 257, 65535}[draw(6)], strings.Repeat(labels[draw(5)], draw(draw(400)+1))
			}
			l = append(l, r)
		}
		return l
	}
	m := api.Msg{Id: number(), Flags: number(), Answers: records(), Authority: records(), More: records()}
	for range draw(3) {
		m.Asked = append(m.Asked, api.Question{Name: name(), Type: number(), Class: number()})
	}
	return m
}

func TestWrittenIsReadAsItWas(t *testing.T) {
	draw := draws(9)
	told := map[api.Errno]int{}
	for range 20000 {
		m := drawn(draw)
		was := deep(m)
		want := modelWrite(m)
		b, e := wire.Write(m)
		told[e]++
		switch {
		case !wire.May(m) || !equal(m, was):
			t.Fatalf("May(%v): false, or it was %v", m, was)
		case len(want) > 1232:
			if e != api.ErrLong || len(b) != 0 {
				t.Fatalf("Write of %d bytes: %v", len(want), e)
			}
		case e != api.OK || !bytes.Equal(b, want):
			t.Fatalf("Write(%v): %v, %v, want %v", m, b, e, want)
		default:
			if r, e := wire.Read(b); e != api.OK || !equal(r, m) || !wire.Same(r, m) {
				t.Fatalf("Read of what was written of %v: %v, %v", m, r, e)
			}
		}
	}
	if told[api.OK] < 1000 || told[api.ErrLong] < 100 {
		t.Error("too few of a kind:", told)
	}
}

func TestReadOfTurnedBytes(t *testing.T) {
	draw := draws(99)
	told := map[api.Errno]int{}
	for range 60000 {
		b := modelWrite(drawn(draw))
		for range 1 + draw(3) {
			at := draw(len(b))
			switch draw(4) {
			case 0:
				b[at] = byte(draw(256))
			case 1:
				b[at] = []byte{0, 1, 5, 28, 63, 64, 191, 192, 255}[draw(9)]
			case 2:
				b = slices.Delete(b, at, at+1)
			default:
				b = slices.Insert(b, at, byte(draw(256)))
			}
		}
		got, e := wire.Read(b)
		want, wantE := modelRead(b)
		told[e]++
		if e != wantE || !equal(got, want) {
			t.Fatalf("Read(%v): %v, %v, want %v, %v", b, got, e, want, wantE)
		}
		if e == api.OK && !wire.May(got) {
			t.Fatalf("what is read may not be: %v", got)
		}
	}
	if told[api.OK] < 1000 || told[api.ErrForm] < 1000 || told[api.ErrLong] < 100 {
		t.Error("too few of a kind:", told)
	}
}

func TestReadOfAnyBytesEnds(t *testing.T) {
	draw := draws(999)
	for range 60000 {
		b := make([]byte, draw(80))
		for i := range b {
			b[i] = []byte{0, 0, 0, 0, 1, 1, 4, 5, 28, 192, 12, byte(draw(256))}[draw(12)]
		}
		got, e := wire.Read(b)
		if want, wantE := modelRead(b); e != wantE || !equal(got, want) {
			t.Fatalf("Read(%v): %v, %v, want %v, %v", b, got, e, want, wantE)
		}
	}
}
