package wire_test

import (
	"math"
	"slices"
	"testing"

	"abatis/api"
	"abatis/wire"
)

// P9.2, Ask

func TestAsk(t *testing.T) {
	for _, id := range []int{math.MinInt, -1, 0, 1, 7, 65535, 65536, math.MaxInt} {
		for _, name := range []string{"", "a", "www.b", "A.Test", ".", of(300)} {
			for _, kind := range []int{math.MinInt, -1, 0, api.TypeA, api.TypeCname, api.TypeAaaa, 65535, 65536, math.MaxInt} {
				want := api.Msg{Id: id, Flags: 256, Asked: []api.Question{{Name: name, Type: kind, Class: 1}}}
				if got := wire.Ask(id, name, kind); !equal(got, want) {
					t.Errorf("Ask(%d, %q, %d): %v", id, name, kind, got)
				}
			}
		}
	}
}

// P9.2, Answer

func TestAnswer(t *testing.T) {
	all := ofEachKind()
	q := wire.Ask(7, "www.b", api.TypeAaaa)
	for n := range len(all) + 1 {
		want := api.Msg{Id: 7, Flags: 33152, Asked: []api.Question{{Name: "www.b", Type: 28, Class: 1}}, Answers: slices.Clone(all[:n])}
		if got := wire.Answer(q, all[:n]...); !equal(got, want) {
			t.Errorf("Answer of %d records: %v", n, got)
		}
	}
	if got := wire.Answer(q); len(got.Answers) != 0 {
		t.Error(got)
	}
	if got := wire.Answer(q, all[1], all[0], all[0]); !slices.Equal(got.Answers, []api.Record{all[1], all[0], all[0]}) {
		t.Error(got)
	}
}

func TestAnswerTakesOfTheQuestionWhatWasAskedAlone(t *testing.T) {
	q := whole()
	q.Id, q.Flags = 4711, 12
	q.Asked = append(q.Asked, api.Question{Name: "x", Type: 9, Class: 3})
	want := api.Msg{Id: 4711, Flags: 33152, Asked: slices.Clone(q.Asked), Answers: []api.Record{recordA("z")}}
	if got := wire.Answer(q, recordA("z")); !equal(got, want) {
		t.Errorf("Answer: %v, want %v", got, want)
	}
	if got := wire.Answer(api.Msg{}); !equal(got, api.Msg{Flags: 33152}) {
		t.Error(got)
	}
	// What may not be is answered as well.
	bad := api.Msg{Id: -1, Asked: []api.Question{{Name: ".", Type: -1, Class: 1 << 20}}}
	if got := wire.Answer(bad, api.Record{Type: -5}); !equal(got, api.Msg{Id: -1, Flags: 33152, Asked: bad.Asked, Answers: []api.Record{{Type: -5}}}) {
		t.Error(got)
	}
}

func TestAnswerIsNewMemory(t *testing.T) {
	q := wire.Ask(7, "a", 1)
	q.Asked = append(make([]api.Question, 0, 4), q.Asked...)
	l := append(make([]api.Record, 0, 4), recordA("a"))
	m := wire.Answer(q, l...)
	again := wire.Answer(q, l...)
	m.Asked[0].Name, m.Answers[0].Name = "b", "b"
	m.Asked, m.Answers = append(m.Asked, api.Question{Name: "b"}), append(m.Answers, recordA("b"))
	if q.Asked[0].Name != "a" || l[0].Name != "a" || q.Asked[:2][1] != (api.Question{}) || l[:2][1] != (api.Record{}) {
		t.Error("an answer shares memory with what was handed in")
	}
	q.Asked[0].Name, l[0].Name = "c", "c"
	if again.Asked[0].Name != "a" || again.Answers[0].Name != "a" {
		t.Error("an answer keeps what was handed in")
	}
	// A list of nothing but spare room, too.
	l = make([]api.Record, 0, 4)
	q.Asked = make([]api.Question, 0, 4)
	m = wire.Answer(q, l...)
	m.Asked, m.Answers = append(m.Asked, api.Question{Name: "b"}), append(m.Answers, recordA("b"))
	if q.Asked[:1][0] != (api.Question{}) || l[:1][0] != (api.Record{}) {
		t.Error("an answer takes spare room")
	}
}

func TestAskedAndAnsweredAreWritten(t *testing.T) {
	q := wire.Ask(65535, "www.b", api.TypeA)
	for _, m := range []api.Msg{q, wire.Answer(q), wire.Answer(q, recordA("www.b")), wire.Answer(q, ofEachKind()...)} {
		b, e := wire.Write(m)
		if e != api.OK {
			t.Errorf("Write(%v): %v", m, e)
		}
		wantRead(t, b, m)
	}
}

// P9.2, Same

func wantSame(t *testing.T, a, b api.Msg, want bool) {
	t.Helper()
	if wire.Same(a, b) != want || wire.Same(b, a) != want {
		t.Errorf("Same(%v, %v): %v and %v, want %v", a, b, wire.Same(a, b), wire.Same(b, a), want)
	}
	if !wire.Same(a, a) || !wire.Same(b, b) {
		t.Errorf("one of %v, %v is not the same as itself", a, b)
	}
}

func TestSame(t *testing.T) {
	for _, m := range []api.Msg{{}, whole(), wire.Ask(1, "a", 1), {Id: -1, Flags: math.MaxInt, More: []api.Record{{Type: -5, Addr: api.Addr{Fam: 9}}}}} {
		wantSame(t, m, deep(m), true)
	}
	empty := api.Msg{Asked: []api.Question{}, Answers: []api.Record{}, Authority: make([]api.Record, 0, 3), More: []api.Record{}}
	wantSame(t, api.Msg{}, empty, true)
}

// partings is what makes a record another one, in one field alone.
func partings() []func(r *api.Record) {
	l := []func(r *api.Record){
		func(r *api.Record) { r.Name += "x" },
		func(r *api.Record) { r.Name = "A" },
		func(r *api.Record) { r.Name = "" },
		func(r *api.Record) { r.Type++ },
		func(r *api.Record) { r.Class++ },
		func(r *api.Record) { r.Ttl++ },
		func(r *api.Record) { r.Addr.Fam++ },
		func(r *api.Record) { r.Target += "x" },
		func(r *api.Record) { r.Data += "x" },
		func(r *api.Record) { r.Data += "\x00" },
	}
	for i := range 16 {
		l = append(l, func(r *api.Record) { r.Addr.B[i]++ })
	}
	return l
}

func TestSameOfOneFieldThatParts(t *testing.T) {
	full := api.Msg{Id: 1, Flags: 2, Asked: []api.Question{{Name: "a", Type: 1, Class: 1}, {Name: "b", Type: 1, Class: 1}}}
	full.Answers, full.Authority, full.More = ofEachKind(), ofEachKind(), ofEachKind()
	turn := func(f func(m *api.Msg)) {
		t.Helper()
		m := deep(full)
		f(&m)
		wantSame(t, full, m, false)
	}
	turn(func(m *api.Msg) { m.Id++ })
	turn(func(m *api.Msg) { m.Id += 65536 })
	turn(func(m *api.Msg) { m.Flags++ })
	turn(func(m *api.Msg) { m.Id, m.Flags = m.Flags, m.Id })
	for i := range full.Asked {
		turn(func(m *api.Msg) { m.Asked[i].Name += "x" })
		turn(func(m *api.Msg) { m.Asked[i].Name = "A" })
		turn(func(m *api.Msg) { m.Asked[i].Type++ })
		turn(func(m *api.Msg) { m.Asked[i].Class++ })
	}
	turn(func(m *api.Msg) { m.Asked = nil })
	turn(func(m *api.Msg) { m.Asked = m.Asked[:1] })
	turn(func(m *api.Msg) { m.Asked = append(m.Asked, api.Question{}) })
	turn(func(m *api.Msg) { slices.Reverse(m.Asked) })
	for _, list := range []func(m *api.Msg) *[]api.Record{
		func(m *api.Msg) *[]api.Record { return &m.Answers },
		func(m *api.Msg) *[]api.Record { return &m.Authority },
		func(m *api.Msg) *[]api.Record { return &m.More },
	} {
		for i := range full.Answers {
			for _, f := range partings() {
				turn(func(m *api.Msg) { f(&(*list(m))[i]) })
			}
		}
		turn(func(m *api.Msg) { *list(m) = nil })
		turn(func(m *api.Msg) { *list(m) = (*list(m))[:3] })
		turn(func(m *api.Msg) { *list(m) = (*list(m))[1:] })
		turn(func(m *api.Msg) { *list(m) = append(*list(m), api.Record{}) })
		turn(func(m *api.Msg) { slices.Reverse(*list(m)) })
	}
}

func TestSameOfListsThatAreChanged(t *testing.T) {
	l := []api.Record{recordA("a")}
	three := inEach(l...)
	for i, a := range three {
		for k, b := range three {
			wantSame(t, a, b, i == k)
		}
		wantSame(t, a, api.Msg{}, false)
	}
}

func TestSameChangesNothing(t *testing.T) {
	a, b := whole(), whole()
	wire.Same(a, b)
	if !equal(a, whole()) || !equal(b, whole()) {
		t.Error("Same changed a message")
	}
}
