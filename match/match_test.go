package match_test

import (
	"math"
	"slices"
	"testing"

	"abatis/api"
	"abatis/match"
	"abatis/wire"
)

const maxTtl = 604800

// query is one of each field another number, so that none stands for another one.
func query() match.Query {
	return match.Query{Id: 9, Name: "www.x", Type: api.TypeA, Server: 2}
}

// of4 and of6 are addresses, each number another one.

func of4(n int) api.Addr {
	return api.Addr{Fam: 4, B: [16]byte{10, 0, byte(n >> 8), byte(n)}}
}

func of6(n int) api.Addr {
	return api.Addr{Fam: 6, B: [16]byte{0x20, 1, 14: byte(n >> 8), 15: byte(n)}}
}

// Records, one of each kind, of the Class that counts.

func a(name string, ttl, n int) api.Record {
	return api.Record{Name: name, Type: 1, Class: 1, Ttl: ttl, Addr: of4(n)}
}

func aaaa(name string, ttl, n int) api.Record {
	return api.Record{Name: name, Type: 28, Class: 1, Ttl: ttl, Addr: of6(n)}
}

func cname(name, target string, ttl int) api.Record {
	return api.Record{Name: name, Type: 5, Class: 1, Ttl: ttl, Target: target}
}

func other(name string, kind int) api.Record {
	return api.Record{Name: name, Type: kind, Class: 1, Ttl: 1, Data: "xy"}
}

// ofClass is a record of another Class.
func ofClass(r api.Record, class int) api.Record {
	r.Class = class
	return r
}

// deep is a message that shares no memory with one.
func deep(m api.Msg) api.Msg {
	m.Asked, m.Answers = slices.Clone(m.Asked), slices.Clone(m.Answers)
	m.Authority, m.More = slices.Clone(m.Authority), slices.Clone(m.More)
	return m
}

func wantAnswers(t *testing.T, q match.Query, server int, m api.Msg, want bool) {
	t.Helper()
	before := deep(m)
	if got := match.Answers(q, server, m); got != want {
		t.Errorf("Answers(%v, %d, %v): %v", q, server, m, got)
	}
	if !wire.Same(m, before) {
		t.Errorf("Answers changed a message: %v, was %v", m, before)
	}
}

// P11.1, Answers

func TestAnAnswerToAQuery(t *testing.T) {
	for _, q := range []match.Query{
		query(), {}, {Name: "a", Type: 28}, {Id: 65535, Name: "A.b.C", Type: 1, Server: 3},
		{Id: 1, Name: "\xff.\x00", Type: 28, Server: math.MaxInt}, {Id: math.MaxInt, Type: 1, Server: -1},
	} {
		m := api.Msg{Id: q.Id, Flags: 33152, Asked: []api.Question{{Name: q.Name, Type: q.Type, Class: 1}}}
		wantAnswers(t, q, q.Server, m, true)
		// What it tells is nothing that it is known by.
		m.Answers = []api.Record{a("other", 60, 1)}
		m.Authority, m.More = []api.Record{other("x", 6)}, []api.Record{other("", 41)}
		wantAnswers(t, q, q.Server, m, true)
	}
}

func TestAnotherServer(t *testing.T) {
	for _, server := range []int{math.MinInt, -3, -2, -1, 0, 1, 3, 2 + 1<<8, 2 + 1<<16, 2 + 1<<32, math.MaxInt} {
		wantAnswers(t, query(), server, match.Forge(query()), false)
	}
	for _, server := range []int{math.MinInt, -1, 0, 1, 2, 3, math.MaxInt} {
		q := query()
		q.Server = server
		wantAnswers(t, q, server, match.Forge(q), true)
		wantAnswers(t, q, server^1, match.Forge(q), false)
	}
}

func TestAnotherId(t *testing.T) {
	for bit := range 64 {
		m := match.Forge(query())
		m.Id ^= 1 << bit
		wantAnswers(t, query(), 2, m, false)
	}
	for _, id := range []int{0, 1, 255, 256, 65535, 65536, -1, math.MinInt, math.MaxInt} {
		q := query()
		q.Id = id
		wantAnswers(t, q, 2, match.Forge(q), true)
		wantAnswers(t, query(), 2, match.Forge(q), false)
	}
}

func TestFlagsOfAnAnswer(t *testing.T) {
	m := match.Forge(query())
	for flags := range 65536 {
		m.Flags = flags
		want := flags >= 32768 && flags/2048%16 == 0 && flags/512%2 == 0
		if got := match.Answers(query(), 2, m); got != want {
			t.Fatalf("Answers with the Flags %d: %v", flags, got)
		}
	}
}

func TestEachOfTheFlags(t *testing.T) {
	m := match.Forge(query())
	for _, x := range []struct {
		flags int
		want  bool
	}{
		{32768, true}, {0, false}, {33152, true}, {33152 - 32768, false}, {256, false},
		{32768 + 2048, false}, {32768 + 4096, false}, {32768 + 8192, false}, {32768 + 16384, false}, {32768 + 30720, false},
		{32768 + 512, false}, {32768 + 512 + 30720, false}, {65535, false}, {30720, false}, {512, false},
		{32768 + 1024, true}, {32768 + 256, true}, {32768 + 128, true}, {32768 + 64, true}, {32768 + 32, true}, {32768 + 16, true},
		{32768 + 3, true}, {32768 + 15, true}, {65535 - 30720 - 512, true},
		// The bits are those, whatever stands above them.
		{32768 + 65536, true}, {65536, false}, {math.MinInt + 32768, true}, {math.MinInt, false}, {-65536, false}, {-32768, true}, {-1, false}, {-1 - 30720 - 512, true},
	} {
		m.Flags = x.flags
		wantAnswers(t, query(), 2, m, x.want)
	}
}

func TestHowManyWereAsked(t *testing.T) {
	asked := api.Question{Name: "www.x", Type: 1, Class: 1}
	m := match.Forge(query())
	for n := range 5 {
		m.Asked = slices.Repeat([]api.Question{asked}, n)
		wantAnswers(t, query(), 2, m, n == 1)
	}
	for _, l := range [][]api.Question{{}, {asked, {}}, {{}, asked}, {asked, {Name: "y", Type: 1, Class: 1}}, {{Name: "y", Type: 1, Class: 1}, asked}, {{}}} {
		m.Asked = l
		wantAnswers(t, query(), 2, m, false)
	}
	m.Asked = append(make([]api.Question, 0, 4), asked)
	wantAnswers(t, query(), 2, m, true)
}

func wantAsked(t *testing.T, q match.Query, asked api.Question, want bool) {
	t.Helper()
	m := match.Forge(q)
	m.Asked = []api.Question{asked}
	wantAnswers(t, q, q.Server, m, want)
}

func TestTheNameThatWasAsked(t *testing.T) {
	for _, name := range []string{"www.x", "WWW.X", "wWw.x", "www.X"} {
		wantAsked(t, query(), api.Question{Name: name, Type: 1, Class: 1}, true)
		q := query()
		q.Name = name
		wantAsked(t, q, api.Question{Name: "Www.x", Type: 1, Class: 1}, true)
	}
	for _, name := range []string{"", "x", "www", "ww.x", "wwww.x", "www.x.", ".www.x", "www.y", "www.x.x", "www..x", "www x", "www\x0ex", "wwW.\x98", "7ww.x", "www.x\x00", " www.x"} {
		wantAsked(t, query(), api.Question{Name: name, Type: 1, Class: 1}, false)
		q := query()
		q.Name = name
		wantAsked(t, q, api.Question{Name: "www.x", Type: 1, Class: 1}, false)
	}
}

// like is whether two bytes are the same, or the same letter.
func like(b, c byte) bool {
	return b == c || b^c == 32 && ('a' <= b && b <= 'z' || 'A' <= b && b <= 'Z')
}

func TestEachByteOfTheNameThatWasAsked(t *testing.T) {
	for b := range 256 {
		for c := range 256 {
			q := query()
			q.Name = "x" + string([]byte{byte(b)}) + "y"
			name := "X" + string([]byte{byte(c)}) + "Y"
			m := match.Forge(q)
			m.Asked[0].Name = name
			if got := match.Answers(q, 2, m); got != like(byte(b), byte(c)) {
				t.Errorf("Answers of %q with %q: %v", q.Name, name, got)
			}
		}
	}
}

func TestTheTypeThatWasAsked(t *testing.T) {
	for _, of := range []int{1, 28} {
		q := query()
		q.Type = of
		for _, kind := range []int{math.MinInt, -28, -1, 0, 1, 2, 5, 16, 27, 28, 29, 65535, 65536 + 1, 65536 + 28, 1<<32 + 1, 1<<32 + 28, math.MaxInt} {
			wantAsked(t, q, api.Question{Name: "www.x", Type: kind, Class: 1}, kind == of)
		}
	}
}

func TestTheClassThatWasAsked(t *testing.T) {
	for _, class := range []int{math.MinInt, -1, 0, 1, 2, 3, 4, 28, 254, 255, 257, 32769, 65535, 65537, 1<<32 + 1, math.MaxInt} {
		for _, kind := range []int{1, 28} {
			q := query()
			q.Type = kind
			wantAsked(t, q, api.Question{Name: "www.x", Type: kind, Class: class}, class == 1)
		}
	}
}

// P11.3: whatever one of the things is that it is known by, no other one makes up for it.
func TestOneThingThatIsAnother(t *testing.T) {
	turns := []func(m *api.Msg){
		func(m *api.Msg) { m.Id++ }, func(m *api.Msg) { m.Id-- }, func(m *api.Msg) { m.Id = 0 },
		func(m *api.Msg) { m.Flags = 0 }, func(m *api.Msg) { m.Flags |= 512 }, func(m *api.Msg) { m.Flags |= 2048 },
		func(m *api.Msg) { m.Asked = nil },
		func(m *api.Msg) { m.Asked[0].Name = "" }, func(m *api.Msg) { m.Asked[0].Name = "www.x.y" },
		func(m *api.Msg) { m.Asked[0].Type = 29 - m.Asked[0].Type }, func(m *api.Msg) { m.Asked[0].Type = 5 },
		func(m *api.Msg) { m.Asked[0].Class = 3 },
	}
	for _, kind := range []int{1, 28} {
		q := query()
		q.Type = kind
		for i, turn := range turns {
			m := match.Forge(q, a("www.x", 60, 1), aaaa("www.x", 60, 1))
			turn(&m)
			if match.Answers(q, 2, m) {
				t.Errorf("type %d, turn %d: it answers", kind, i)
			}
		}
	}
}

// P11.2, Forge

func wantForge(t *testing.T, q match.Query, l ...api.Record) {
	t.Helper()
	want := api.Msg{Id: q.Id, Flags: 33152, Asked: []api.Question{{Name: q.Name, Type: q.Type, Class: 1}}, Answers: slices.Clone(l)}
	m := match.Forge(q, l...)
	if !wire.Same(m, want) {
		t.Errorf("Forge(%v, %v): %v", q, l, m)
	}
	if !wire.Same(m, wire.Answer(wire.Ask(q.Id, q.Name, q.Type), l...)) {
		t.Errorf("Forge(%v, %v) is not what wire answers: %v", q, l, m)
	}
	wantAnswers(t, q, q.Server, m, true)
}

func TestForge(t *testing.T) {
	many := []api.Record{a("www.x", 60, 1), aaaa("y", 0, 2), cname("Www.X", "y", -1), other("", 16), a("www.x", 60, 1), {}, {Type: -5}}
	for _, kind := range []int{1, 28} {
		for _, id := range []int{0, 1, 65535, -1, math.MaxInt} {
			for _, name := range []string{"", "a", "Www.X", "\xff", ".."} {
				q := match.Query{Id: id, Name: name, Type: kind, Server: id}
				for n := range len(many) + 1 {
					wantForge(t, q, many[:n]...)
					wantForge(t, q, many[n:]...)
				}
			}
		}
	}
	wantForge(t, query(), slices.Repeat(many, 1000)...)
	wantForge(t, match.Query{})
}

func TestForgeIsNewMemory(t *testing.T) {
	q := query()
	l := append(make([]api.Record, 0, 4), a("www.x", 60, 1))
	m, again := match.Forge(q, l...), match.Forge(q, l...)
	m.Asked[0].Name, m.Answers[0].Name = "b", "b"
	m.Asked, m.Answers = append(m.Asked, api.Question{Name: "b"}), append(m.Answers, a("b", 60, 2))
	if l[0] != a("www.x", 60, 1) || l[:2][1] != (api.Record{}) {
		t.Error("a message shares memory with what was handed in")
	}
	l[0].Name = "c"
	if !wire.Same(again, match.Forge(q, a("www.x", 60, 1))) {
		t.Error("a message keeps what was handed in")
	}
	// A list of nothing but spare room, too.
	l = make([]api.Record, 0, 4)
	m = match.Forge(q, l...)
	m.Answers = append(m.Answers, a("b", 60, 2))
	if l[:1][0] != (api.Record{}) {
		t.Error("a message takes spare room")
	}
}

func TestForgedIsWrittenAndReadAndAnswers(t *testing.T) {
	q := query()
	for _, l := range [][]api.Record{nil, {a("www.x", 60, 1)}, {cname("WWW.x", "Y", 5), a("y", 60, 1), aaaa("y", 7, 1), other("y", 16)}} {
		m := match.Forge(q, l...)
		b, e := wire.Write(m)
		if e != api.OK {
			t.Errorf("Write(%v): %v", m, e)
		}
		back, e := wire.Read(b)
		if e != api.OK || !wire.Same(back, m) {
			t.Errorf("Read: %v, %v, want %v", back, e, m)
		}
		wantAnswers(t, q, 2, back, true)
		wantAnswers(t, q, 1, back, false)
	}
}
