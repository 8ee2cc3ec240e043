package solve_test

import (
	"bytes"
	"slices"
	"strconv"
	"testing"

	"abatis/api"
	"abatis/match"
	"abatis/solve"
)

// P12.2, Hear: what is no answer

// wantNothing asks that of bytes nothing is told, and nothing is done.
func wantNothing(t *testing.T, s *solve.Solver, server int, b []byte, now int) {
	t.Helper()
	was, before := told(s), bytes.Clone(b)
	wantEvents(t, s.Hear(server, b, 4711, now))
	if got := told(s); got != was {
		t.Errorf("changed by %v from %d: %s, was %s", b, server, got, was)
	}
	if !bytes.Equal(b, before) {
		t.Error("Hear changed its bytes")
	}
}

// told is all that a solver tells, as a text.
func told(s *solve.Solver) string {
	var text string
	for _, n := range s.Open() {
		q, until, _ := s.Query(n)
		for _, x := range []int{n, q.Id, q.Type, q.Server, until} {
			text += strconv.Itoa(x) + " "
		}
		text += strconv.Quote(q.Name) + "; "
	}
	for _, k := range s.Keys() {
		l, _ := s.Get(k.Name, k.Type, 0)
		until, _ := s.Until(k.Name, k.Type)
		text += strconv.Quote(k.Name) + " " + strconv.Itoa(k.Type) + " " + strconv.Itoa(until)
		for _, a := range l {
			text += " " + strconv.Itoa(a.Fam)
			for _, b := range a.B {
				text += "." + strconv.Itoa(int(b))
			}
		}
		text += "; "
	}
	return text
}

func TestBytesThatAreNoMessage(t *testing.T) {
	s := solve.New(config())
	start(t, s, "www.x", 1, 7, 0, sent(0, query(7, "www.x", 1, 0)))
	good := answer(t, queryOf(t, s, 0), cname("www.x", "y.x", 60), a("y.x", 60, 1))
	for i := range good {
		wantNothing(t, s, 0, good[:i], 1)
	}
	for _, b := range [][]byte{nil, {}, {0}, {1, 2}, bytes.Repeat([]byte{255}, 40), make([]byte, 11), make([]byte, 1233), append(bytes.Clone(good), 0), append(bytes.Clone(good), good...)} {
		wantNothing(t, s, 0, b, 1)
	}
	long := match.Forge(queryOf(t, s, 0))
	for len(bytesOf(t, long)) < api.MaxMsg-16 {
		long.Answers = append(long.Answers, a("www.x", 60, len(long.Answers)))
	}
	b := append(bytesOf(t, long), make([]byte, api.MaxMsg)...)
	wantNothing(t, s, 0, b[:api.MaxMsg], 1)
	wantNothing(t, s, 0, b[:api.MaxMsg+1], 1)
	wantEvents(t, s.Hear(0, good, 0, 1), done(0, of4(1)))
}

func TestMessagesThatAnswerNoOpenQuery(t *testing.T) {
	s := solve.New(config())
	start(t, s, "www.x", 1, 7, 0, sent(0, query(7, "www.x", 1, 0)))
	start(t, s, "y", 28, 8, 0, sent(1, query(8, "y", 28, 0)))
	start(t, s, "z", 1, 9, 0, sent(2, query(9, "z", 1, 0)))
	hear(t, s, 2, 0, 0, done(2, of4(1)), a("z", 60, 1))
	for n := range 2 {
		q := queryOf(t, s, n)
		l := []api.Record{a(q.Name, 60, 1), aaaa(q.Name, 60, 1)}
		for _, server := range []int{-1, 1, 2, 3, 1 << 32} {
			wantNothing(t, s, server, answer(t, q, l...), 1)
		}
		for _, turn := range []func(m *api.Msg){
			func(m *api.Msg) { m.Id++ }, func(m *api.Msg) { m.Id = 9 }, func(m *api.Msg) { m.Id = 15 - m.Id }, func(m *api.Msg) { m.Id ^= 32768 },
			func(m *api.Msg) { m.Flags &^= 32768 }, func(m *api.Msg) { m.Flags |= 512 }, func(m *api.Msg) { m.Flags |= 2048 }, func(m *api.Msg) { m.Flags |= 16384 },
			func(m *api.Msg) { m.Flags |= 512 | 3 }, func(m *api.Msg) { m.Flags |= 2048 | 2 },
			func(m *api.Msg) { m.Asked = nil }, func(m *api.Msg) { m.Asked = append(m.Asked, m.Asked[0]) },
			func(m *api.Msg) { m.Asked[0].Name = "z" }, func(m *api.Msg) { m.Asked[0].Name = "" }, func(m *api.Msg) { m.Asked[0].Name += ".x" },
			func(m *api.Msg) { m.Asked[0].Type = 29 - m.Asked[0].Type }, func(m *api.Msg) { m.Asked[0].Type = 5 }, func(m *api.Msg) { m.Asked[0].Class = 3 },
		} {
			m := match.Forge(q, l...)
			turn(&m)
			wantNothing(t, s, q.Server, bytesOf(t, m), 1)
		}
	}
	// The answer to what is over answers nothing any more.
	wantNothing(t, s, 0, answer(t, query(9, "z", 1, 0), a("z", 60, 2)), 1)
	hear(t, s, 0, 0, 1, done(0, of4(1)), a("www.x", 60, 1))
	hear(t, s, 1, 0, 1, done(1, of6(1)), aaaa("y", 60, 1))
}

// What was asked ahead of it is answered too late once a lookup was tried again, or goes on with another name.
func TestAnswersThatComeTooLate(t *testing.T) {
	s := solve.New(config())
	start(t, s, "a", 1, 1, 0, sent(0, query(1, "a", 1, 0)))
	first := queryOf(t, s, 0)
	wantEvents(t, s.Tick(10, 2), sent(0, query(2, "a", 1, 1)))
	second := queryOf(t, s, 0)
	wantNothing(t, s, 0, answer(t, first, a("a", 60, 1)), 11)
	wantNothing(t, s, 1, answer(t, first, a("a", 60, 1)), 11)
	wantNothing(t, s, 0, answer(t, second, a("a", 60, 1)), 11)
	hear(t, s, 0, 3, 11, sent(0, query(3, "b", 1, 0)), cname("a", "b", 60))
	wantNothing(t, s, 1, answer(t, second, cname("a", "b", 60)), 12)
	wantNothing(t, s, 0, answer(t, first, a("a", 60, 1)), 12)
	wantNothing(t, s, 0, answer(t, query(3, "a", 1, 0), a("a", 60, 1)), 12)
	hear(t, s, 0, 4, 12, done(0, of4(1)), a("b", 60, 1))
	wantNothing(t, s, 0, answer(t, query(3, "b", 1, 0), a("b", 60, 2)), 12)
}

// What is waited for no longer, but was not yet tried again, may be answered still.
func TestAnswersAheadOfTheTick(t *testing.T) {
	s := solve.New(config())
	start(t, s, "a", 1, 1, 0, sent(0, query(1, "a", 1, 0)))
	hear(t, s, 0, 0, 500, done(0, of4(1)), a("a", 60, 1))
	wantCached(t, s, "a", 1, 560, of4(1))
}

// P12.2, Hear: which lookup is answered

func TestTheFirstSuchLookupIsAnswered(t *testing.T) {
	s := solve.New(config())
	start(t, s, "b", 1, 7, 0, sent(0, query(7, "b", 1, 0)))
	start(t, s, "a", 1, 7, 1, sent(1, query(7, "a", 1, 0)))
	start(t, s, "a", 28, 7, 1, sent(2, query(7, "a", 28, 0)))
	start(t, s, "A", 1, 65536+7, 2, sent(3, query(7, "A", 1, 0)))
	start(t, s, "a", 1, -8, 3, sent(4, query(7, "a", 1, 0)))
	b := answer(t, query(7, "A", 1, 0), a("a", 60, 1))
	for _, n := range []int{1, 3, 4} {
		wantEvents(t, s.Hear(0, b, 0, 4), done(n, of4(1)))
	}
	wantNothing(t, s, 0, b, 4)
	wantOpen(t, s, 0, 2)
}

func TestLettersOfTheNameAreNothingToTheAnswer(t *testing.T) {
	s := solve.New(config())
	start(t, s, "wWw.x", 1, 7, 0, sent(0, query(7, "wWw.x", 1, 0)))
	wantEvents(t, s.Hear(0, answer(t, query(7, "WwW.X", 1, 0), cname("www.X", "Y", 60), a("y", 30, 1)), 0, 1), done(0, of4(1)))
	wantCached(t, s, "www.x", 1, 31, of4(1))
	if l := s.Keys(); len(l) != 1 || l[0].Name != "www.x" || l[0].Type != 1 {
		t.Error("keys:", l)
	}
}

// P12.2, Hear: errors

func TestNoSuchName(t *testing.T) {
	s := solve.New(config())
	for i, l := range [][]api.Record{nil, {a("n", 60, 1)}, {cname("n", "y", 60)}} {
		start(t, s, "n", 1, 7, 0, sent(i, query(7, "n", 1, 0)))
		wantEvents(t, s.Hear(0, coded(t, queryOf(t, s, i), 3, l...), 8, 1), failed(i, api.ErrName))
		wantNoQuery(t, s, i)
	}
	// No addresses, and no chain.
	start(t, s, "n", 1, 7, 0, sent(3, query(7, "n", 1, 0)))
	hear(t, s, 3, 8, 1, failed(3, api.ErrName), aaaa("n", 60, 1), a("m", 60, 1))
	// Nor of a name that a chain led to.
	start(t, s, "n", 1, 7, 0, sent(4, query(7, "n", 1, 0)))
	hear(t, s, 4, 8, 1, sent(4, query(8, "m", 1, 0)), cname("n", "m", 60))
	hear(t, s, 4, 9, 1, failed(4, api.ErrName))
	wantOpen(t, s)
	if s.Len() != 0 {
		t.Error("something was cached:", s.Keys())
	}
}

func TestServersThatDoNotAnswerWell(t *testing.T) {
	for code := 1; code < 16; code++ {
		if code == 3 {
			continue
		}
		s := solve.New(solve.Config{Servers: 2, Tries: 3, Wait: 10, Room: 5})
		start(t, s, "a", 1, 7, 0, sent(0, query(7, "a", 1, 0)))
		bad := func() []byte { return coded(t, queryOf(t, s, 0), code, a("a", 60, 1), cname("a", "b", 60)) }
		wantEvents(t, s.Hear(0, bad(), 65536+8, 4), sent(0, query(8, "a", 1, 1)))
		wantQuery(t, s, 0, query(8, "a", 1, 1), 14)
		wantEvents(t, s.Hear(1, bad(), 9, 14), sent(0, query(9, "a", 1, 0)))
		wantQuery(t, s, 0, query(9, "a", 1, 0), 24)
		wantEvents(t, s.Hear(0, bad(), 10, 14), failed(0, api.ErrTimeout))
		wantOpen(t, s)
		if s.Len() != 0 {
			t.Error("something was cached:", s.Keys())
		}
	}
}

// Ticks and answers count as tries alike.
func TestTriesAreCountedOverAll(t *testing.T) {
	s := solve.New(solve.Config{Servers: 4, Tries: 4, Wait: 10, Room: 5})
	start(t, s, "a", 1, 1, 0, sent(0, query(1, "a", 1, 0)))
	wantEvents(t, s.Tick(10, 2), sent(0, query(2, "a", 1, 1)))
	wantEvents(t, s.Hear(1, coded(t, queryOf(t, s, 0), 5), 3, 12), sent(0, query(3, "a", 1, 2)))
	wantEvents(t, s.Tick(21, 4))
	wantEvents(t, s.Tick(22, 4), sent(0, query(4, "a", 1, 3)))
	wantEvents(t, s.Hear(3, coded(t, queryOf(t, s, 0), 2), 5, 23), failed(0, api.ErrTimeout))
}

// P12.2, Hear: addresses

func TestAddresses(t *testing.T) {
	s := solve.New(config())
	start(t, s, "a", 1, 1, 0, sent(0, query(1, "a", 1, 0)))
	start(t, s, "a", 28, 2, 0, sent(1, query(2, "a", 28, 0)))
	both := []api.Record{a("a", 50, 3), aaaa("a", 40, 4), a("a", 30, 1), a("A", 60, 3), aaaa("a", 20, 2)}
	hear(t, s, 0, 0, 1, done(0, fours(3, 1)...), both...)
	hear(t, s, 1, 0, 2, done(1, of6(4), of6(2)), both...)
	wantOpen(t, s)
	wantCached(t, s, "a", 1, 31, fours(3, 1)...)
	wantCached(t, s, "a", 28, 22, of6(4), of6(2))
}

func TestAddressesOfNoLifetimeAreNotKept(t *testing.T) {
	s := solve.New(config())
	start(t, s, "a", 1, 1, 0, sent(0, query(1, "a", 1, 0)))
	hear(t, s, 0, 0, 1, done(0, of4(1)), a("a", 0, 1))
	start(t, s, "a", 1, 1, 1, sent(1, query(1, "a", 1, 0)))
	hear(t, s, 1, 0, 1, done(1, of4(1)), cname("a", "b", 0), a("b", 60, 1))
	start(t, s, "a", 1, 1, 1, sent(2, query(1, "a", 1, 0)))
	hear(t, s, 2, 2, 1, sent(2, query(2, "b", 1, 0)), cname("a", "b", 0))
	hear(t, s, 2, 0, 1, done(2, of4(1)), a("b", 60, 1))
	if s.Len() != 0 {
		t.Error("something was cached:", s.Keys())
	}
	// What the cache has of the name stays as it was.
	start(t, s, "a", 1, 1, 1, sent(3, query(1, "a", 1, 0)))
	start(t, s, "a", 1, 2, 1, sent(4, query(2, "a", 1, 0)))
	hear(t, s, 3, 0, 1, done(3, of4(1)), a("a", 60, 1))
	hear(t, s, 4, 0, 1, done(4, of4(2)), a("a", 0, 2))
	wantCached(t, s, "a", 1, 61, of4(1))
}

func TestLifetimesOfAnAnswer(t *testing.T) {
	for _, x := range []struct{ ttl, want int }{{1, 1}, {2, 2}, {maxTtl - 1, maxTtl - 1}, {maxTtl, maxTtl}, {maxTtl + 1, maxTtl}, {1<<31 - 1, maxTtl}} {
		s := solve.New(config())
		start(t, s, "a", 1, 1, 100, sent(0, query(1, "a", 1, 0)))
		hear(t, s, 0, 0, 105, done(0, of4(1)), a("a", x.ttl, 1))
		wantCached(t, s, "a", 1, 105+x.want, of4(1))
	}
}

// The lifetime is the least of all answers, wherever it stood.
func TestLifetimesOfAChain(t *testing.T) {
	for least := range 5 {
		ttl := func(n int) int {
			if n == least {
				return 20
			}
			return 30 + n
		}
		s := solve.New(config())
		start(t, s, "a", 1, 1, 100, sent(0, query(1, "a", 1, 0)))
		hear(t, s, 0, 2, 101, sent(0, query(2, "c", 1, 0)), cname("a", "b", ttl(0)), cname("b", "c", ttl(1)))
		hear(t, s, 0, 3, 102, sent(0, query(3, "d", 1, 0)), cname("c", "d", ttl(2)))
		hear(t, s, 0, 4, 103, done(0, of4(1)), cname("d", "e", ttl(3)), a("e", ttl(4), 1))
		wantCached(t, s, "a", 1, 123, of4(1))
		for _, name := range []string{"b", "c", "d", "e"} {
			if s.Cached(name, 1, 0) {
				t.Errorf("%s is cached", name)
			}
		}
	}
}

// Lookups do not share lifetimes and steps.
func TestLookupsAreApart(t *testing.T) {
	s := solve.New(config())
	start(t, s, "a", 1, 1, 0, sent(0, query(1, "a", 1, 0)))
	start(t, s, "b", 1, 2, 0, sent(1, query(2, "b", 1, 0)))
	hear(t, s, 0, 3, 1, sent(0, query(3, "c8", 1, 0)), chain("a", "c", 8, 5)...)
	hear(t, s, 1, 4, 1, sent(1, query(4, "d8", 1, 0)), chain("b", "d", 8, 50)...)
	wantQuery(t, s, 0, query(3, "c8", 1, 0), 11)
	wantQuery(t, s, 1, query(4, "d8", 1, 0), 11)
	hear(t, s, 0, 0, 2, done(0, of4(1)), a("c8", 500, 1))
	hear(t, s, 1, 0, 2, done(1, of4(2)), a("d8", 500, 2))
	wantCached(t, s, "a", 1, 7, of4(1))
	wantCached(t, s, "b", 1, 52, of4(2))
}

// chain is the CNAMEs of so many steps: from a name to such, with the numbers 1, 2, ..
func chain(from, to string, steps, ttl int) []api.Record {
	var l []api.Record
	for i := range steps {
		next := to + strconv.Itoa(i+1)
		l = append(l, cname(from, next, ttl))
		from = next
	}
	return l
}

// P12.2, Hear: how many steps

func TestStepsOfOneAnswer(t *testing.T) {
	for steps := 1; steps < 12; steps++ {
		last := "c" + strconv.Itoa(steps)
		l := chain("a", "c", steps, 60)
		s := solve.New(config())
		start(t, s, "a", 1, 1, 0, sent(0, query(1, "a", 1, 0)))
		start(t, s, "a", 1, 2, 0, sent(1, query(2, "a", 1, 0)))
		if steps > 8 {
			hear(t, s, 0, 3, 1, failed(0, api.ErrLong), l...)
			hear(t, s, 1, 3, 1, failed(1, api.ErrLong), append(l, a(last, 60, 1))...)
			wantOpen(t, s)
			continue
		}
		hear(t, s, 0, 3, 1, sent(0, query(3, last, 1, 0)), l...)
		hear(t, s, 1, 3, 1, done(1, of4(1)), append(l, a(last, 60, 1))...)
		wantCached(t, s, "a", 1, 61, of4(1))
	}
}

// Steps count over all answers; that they are too many is told ahead of addresses.
func TestStepsOfSeveralAnswers(t *testing.T) {
	for _, parts := range [][]int{
		{1, 1, 1, 1, 1, 1, 1, 1}, {7, 1}, {1, 7}, {4, 4}, {2, 2, 2, 2}, {3, 3, 2},
		{1, 1, 1, 1, 1, 1, 1, 1, 1}, {8, 1}, {1, 8}, {8, 8}, {4, 5}, {3, 3, 3}, {7, 2}, {2, 7}, {5, 8},
	} {
		for _, found := range []bool{false, true} {
			s := solve.New(config())
			name, all := "a", 0
			start(t, s, name, 1, 0, 0, sent(0, query(0, name, 1, 0)))
			for i, n := range parts {
				to := "p" + strconv.Itoa(i) + "x"
				l := chain(name, to, n, 60)
				name, all = l[n-1].Target, all+n
				want := sent(0, query(i, name, 1, 0))
				if found && i == len(parts)-1 {
					l = append(l, a(name, 60, 1))
					want = done(0, of4(1))
				}
				if all > 8 {
					want = failed(0, api.ErrLong)
				}
				hear(t, s, 0, i, 1, want, l...)
			}
			if all > 8 && (len(s.Open()) != 0 || s.Len() != 0) {
				t.Errorf("%v: open %v, cached %v", parts, s.Open(), s.Keys())
			}
			if all <= 8 && found {
				wantCached(t, s, "a", 1, 61, of4(1))
			}
		}
	}
}

func TestAddressesWithoutAStepMore(t *testing.T) {
	s := solve.New(config())
	start(t, s, "a", 1, 1, 0, sent(0, query(1, "a", 1, 0)))
	hear(t, s, 0, 2, 1, sent(0, query(2, "c8", 1, 0)), chain("a", "c", 8, 60)...)
	hear(t, s, 0, 3, 2, done(0, of4(1)), a("c8", 60, 1))
}

func TestChainsThatLeadBack(t *testing.T) {
	s := solve.New(config())
	start(t, s, "a", 1, 0, 0, sent(0, query(0, "a", 1, 0)))
	start(t, s, "a", 1, 1, 0, sent(1, query(1, "a", 1, 0)))
	hear(t, s, 0, 0, 1, failed(0, api.ErrLong), cname("a", "b", 60), cname("b", "a", 60), a("a", 60, 1))
	// Of answers with a step each, all are asked for.
	for i := range 8 {
		hear(t, s, 1, i, 1, sent(1, query(i, []string{"b", "a"}[i%2], 1, 0)), cname([]string{"a", "b"}[i%2], []string{"b", "a"}[i%2], 60))
	}
	hear(t, s, 1, 9, 1, failed(1, api.ErrLong), cname("a", "b", 60))
}

// P12.2, Hear: the next name

func TestTheNextName(t *testing.T) {
	s := solve.New(solve.Config{Servers: 3, Tries: 3, Wait: 10, Room: 5})
	start(t, s, "a", 28, 1, 0, sent(0, query(1, "a", 28, 0)))
	wantEvents(t, s.Tick(10, 2), sent(0, query(2, "a", 28, 1)))
	wantEvents(t, s.Tick(20, 3), sent(0, query(3, "a", 28, 2)))
	// It is asked of the server 0, in its own letters, and was sent no time yet.
	hear(t, s, 0, -5, 25, sent(0, query(4, "Www.B", 28, 0)), cname("a", "x", 60), cname("X", "Www.B", 60), a("www.b", 60, 1))
	wantQuery(t, s, 0, query(4, "Www.B", 28, 0), 35)
	wantEvents(t, s.Tick(34, 5))
	wantEvents(t, s.Tick(35, 5), sent(0, query(5, "Www.B", 28, 1)))
	wantEvents(t, s.Tick(45, 6), sent(0, query(6, "Www.B", 28, 2)))
	wantEvents(t, s.Tick(55, 7), failed(0, api.ErrTimeout))
}

func TestTheEmptyNameIsAskedNext(t *testing.T) {
	s := solve.New(config())
	start(t, s, "a", 1, 1, 0, sent(0, query(1, "a", 1, 0)))
	hear(t, s, 0, 2, 1, sent(0, query(2, "", 1, 0)), cname("a", "", 60))
	hear(t, s, 0, 3, 1, done(0, of4(1)), a("", 60, 1))
	wantCached(t, s, "a", 1, 61, of4(1))
}

// The next name is asked for, also if the cache has it.
func TestTheCacheIsNotAskedForTheNextName(t *testing.T) {
	s := solve.New(config())
	start(t, s, "a", 1, 1, 0, sent(0, query(1, "a", 1, 0)))
	start(t, s, "b", 1, 1, 0, sent(1, query(1, "b", 1, 0)))
	hear(t, s, 1, 2, 1, done(1, of4(1)), a("b", 60, 1))
	hear(t, s, 0, 2, 1, sent(0, query(2, "b", 1, 0)), cname("a", "b", 60))
	hear(t, s, 0, 2, 1, done(0, of4(2)), a("b", 60, 2))
	wantCached(t, s, "b", 1, 61, of4(1))
	wantCached(t, s, "a", 1, 61, of4(2))
}

// P12.2, Hear: the cache's room

func TestTheCacheLetsGo(t *testing.T) {
	s := solve.New(solve.Config{Servers: 1, Tries: 1, Wait: 10, Room: 2})
	for i, x := range []struct {
		name string
		ttl  int
	}{{"a", 50}, {"b", 40}, {"c", 60}, {"d", 70}, {"e", 10}} {
		start(t, s, x.name, 1, 0, 0, sent(i, query(0, x.name, 1, 0)))
		hear(t, s, i, 0, 0, done(i, of4(i)), a(x.name, x.ttl, i))
	}
	wantCached(t, s, "d", 1, 70, of4(3))
	wantCached(t, s, "e", 1, 10, of4(4))
	if s.Len() != 2 || s.Room() != 2 {
		t.Error(s.Keys(), s.Room())
	}
	// What is over makes room ahead of others.
	start(t, s, "f", 1, 0, 10, sent(5, query(0, "f", 1, 0)))
	hear(t, s, 5, 0, 10, done(5, of4(5)), a("f", 5, 5))
	wantCached(t, s, "d", 1, 70, of4(3))
	wantCached(t, s, "f", 1, 15, of4(5))
}

// R4
func TestBytesAreNotKept(t *testing.T) {
	s := solve.New(config())
	start(t, s, "a", 1, 1, 0, sent(0, query(1, "a", 1, 0)))
	b := slices.Grow(answer(t, queryOf(t, s, 0), cname("a", "www.b", 60)), 50)
	before := bytes.Clone(b[:cap(b)])
	wantEvents(t, s.Hear(0, b, 2, 1), sent(0, query(2, "www.b", 1, 0)))
	if !bytes.Equal(b[:cap(b)], before) {
		t.Error("Hear changed its bytes, or their spare room")
	}
	clear(b[:cap(b)])
	wantQuery(t, s, 0, query(2, "www.b", 1, 0), 11)
}
