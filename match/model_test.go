package match_test

import (
	"slices"
	"strings"
	"testing"

	"abatis/api"
	"abatis/match"
)

// draws is numbers that look like chance, and are the same in every run.
func draws(seed uint64) func(n int) int {
	return func(n int) int {
		seed = seed*6364136223846793005 + 1442695040888963407
		return int(seed>>33) % n
	}
}

// shuffled is the numbers below n, in a drawn order.
func shuffled(draw func(int) int, n int) []int {
	l := make([]int, n)
	for i := range l {
		k := draw(i + 1)
		l[i], l[k] = l[k], i
	}
	return l
}

func alike(a, b string) bool {
	for i := 0; i < len(a) && i < len(b); i++ {
		if !like(a[i], b[i]) {
			return false
		}
	}
	return len(a) == len(b)
}

// modelChain is the names behind a name, told from the last one on; and the least Ttl of so many steps.
func modelChain(name string, l []api.Record, most int) ([]string, int, bool) {
	for _, r := range l {
		if r.Type != 5 || r.Class != 1 || !alike(r.Name, name) {
			continue
		}
		if most <= 0 {
			return []string{name}, 604800, false
		}
		rest, ttl, ends := modelChain(r.Target, l, most-1)
		if r.Ttl < ttl {
			ttl = r.Ttl
		}
		return append([]string{name}, rest...), ttl, ends
	}
	return []string{name}, 604800, true
}

// modelTell is what an answer tells, as the chapter says it.
func modelTell(q match.Query, m api.Msg) match.Told {
	switch m.Flags % 16 {
	case 0:
	case 3:
		return match.Told{E: api.ErrName}
	default:
		return match.Told{E: api.ErrState}
	}
	names, ttl, ends := modelChain(q.Name, m.Answers, 8)
	if !ends {
		return match.Told{E: api.ErrLong}
	}
	x := match.Told{Ttl: ttl, Steps: len(names) - 1}
	last := names[x.Steps]
	seen := map[api.Addr]bool{}
	for _, r := range m.Answers {
		if r.Type == q.Type && r.Class == 1 && alike(r.Name, last) {
			x.Ttl = min(x.Ttl, r.Ttl)
			if !seen[r.Addr] {
				x.Addrs = append(x.Addrs, r.Addr)
			}
			seen[r.Addr] = true
		}
	}
	if len(x.Addrs) == 0 && x.Steps == 0 {
		return match.Told{E: api.ErrName}
	}
	if len(x.Addrs) == 0 {
		x.Next = last
	}
	return x
}

// drawnName is one of few names, some of them in large letters, some that part in one byte above 127.
func drawnName(draw func(int) int) string {
	s := []string{"a", "b", "c", "d", "e", "f", "g", "h", "i", "j", "k.l", "m\x80", "m\x81", ""}[draw(14)]
	if draw(3) == 0 && s != "" && s[0] != 'm' {
		return strings.ToUpper(s)
	}
	return s
}

func drawnRecord(draw func(int) int) api.Record {
	r := api.Record{Name: drawnName(draw), Class: 1, Ttl: []int{-1, 0, 604800, 604801, draw(1000), draw(1000), draw(1000)}[draw(7)]}
	if draw(12) == 0 {
		r.Class = draw(4)
	}
	switch draw(8) {
	case 0:
		r.Type, r.Addr = 28, of6(draw(4))
	case 1, 2:
		r.Type, r.Addr = 1, of4(draw(4))
	case 3:
		r.Type, r.Data = 16, "x"
	default:
		r.Type, r.Target = 5, drawnName(draw)
	}
	return r
}

func drawnList(draw func(int) int, most int) []api.Record {
	var l []api.Record
	for range draw(most) {
		l = append(l, drawnRecord(draw))
	}
	return l
}

func drawnQuery(draw func(int) int) match.Query {
	return match.Query{Id: draw(3), Name: drawnName(draw), Type: []int{1, 28}[draw(2)], Server: draw(3)}
}

// P11.1, P11.2: drawn messages, held against the model.
func TestAgainstTheModel(t *testing.T) {
	kinds := map[string]int{}
	for seed := range 60000 {
		draw := draws(uint64(seed))
		q := drawnQuery(draw)
		m := match.Forge(q, drawnList(draw, 30)...)
		m.Authority, m.More = drawnList(draw, 3), drawnList(draw, 3)
		if draw(20) == 0 {
			m.Flags += draw(16)
		}
		want := modelTell(q, m)
		wantTell(t, q, m, want)
		most := draw(14) - 2
		names, ttl, ends := modelChain(q.Name, m.Answers, most)
		wantChain(t, q.Name, m.Answers, most, names, ttl, ends)
		if t.Failed() {
			t.Fatal("seed", seed)
		}
		switch {
		case want.E != api.OK:
			kinds[want.E.Error()]++
		case want.Next != "":
			kinds["next"]++
		case want.Steps > 2:
			kinds["addresses behind a chain"]++
		default:
			kinds["addresses"]++
		}
	}
	if len(kinds) != 6 {
		t.Error("too few kinds:", kinds)
	}
	for kind, n := range kinds {
		if n < 300 {
			t.Error("too few of a kind:", kind, n)
		}
	}
}

// P11.1, P11.3: of queries and messages that are drawn apart, few answer; those are the ones of the same Id, server, name and type.
func TestAnswersAgainstTheModel(t *testing.T) {
	answered := 0
	for seed := range 60000 {
		draw := draws(uint64(seed))
		q, other := drawnQuery(draw), drawnQuery(draw)
		m := match.Forge(other, drawnList(draw, 4)...)
		m.Flags = []int{33152, 32768, 32768 | draw(512), draw(65536)}[draw(4)]
		want := q.Id == other.Id && q.Server == other.Server && q.Type == other.Type && alike(q.Name, other.Name) &&
			m.Flags >= 32768 && m.Flags/512%2 == 0 && m.Flags/2048%16 == 0
		wantAnswers(t, q, other.Server, m, want)
		if want {
			answered++
		}
	}
	if answered < 100 {
		t.Error("too few answer:", answered)
	}
}

// P11.3: records whose names are none of the chain change nothing, wherever they stand.
func TestRecordsOfOtherNamesChangeNothing(t *testing.T) {
	for seed := range 20000 {
		draw := draws(uint64(seed))
		q := drawnQuery(draw)
		l := drawnList(draw, 12)
		want := match.Tell(q, match.Forge(q, l...))
		names, ttl, ends := match.Chain(q.Name, l, 8)
		for range draw(10) {
			r := drawnRecord(draw)
			if !slices.ContainsFunc(names, func(s string) bool { return alike(s, r.Name) }) {
				l = slices.Insert(l, draw(len(l)+1), r)
			}
		}
		wantTell(t, q, match.Forge(q, l...), want)
		wantChain(t, q.Name, l, 8, names, ttl, ends)
		if t.Failed() {
			t.Fatal("seed", seed)
		}
	}
}

// P11.3: nor do records of the other two rows, of other Classes, or of Types that were not asked for.
func TestRecordsThatDoNotCountChangeNothing(t *testing.T) {
	for seed := range 20000 {
		draw := draws(uint64(seed))
		q := drawnQuery(draw)
		m := match.Forge(q, drawnList(draw, 12)...)
		want := match.Tell(q, m)
		for range draw(10) {
			r := drawnRecord(draw)
			switch {
			case draw(2) == 0:
				r.Class = []int{0, 2, 3, 255, 257}[draw(5)]
			case r.Type == 5 || r.Type == q.Type:
				r.Type = 29 - q.Type
			}
			m.Answers = slices.Insert(m.Answers, draw(len(m.Answers)+1), r)
		}
		m.Authority, m.More = drawnList(draw, 9), drawnList(draw, 9)
		wantTell(t, q, m, want)
		if t.Failed() {
			t.Fatal("seed", seed)
		}
	}
}
