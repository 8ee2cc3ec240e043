package cache_test

import (
	"slices"
	"strings"
	"testing"

	"abatis/api"
	"abatis/cache"
)

// draws is numbers that look like chance, and are the same in every run.
func draws(seed uint64) func(n int) int {
	return func(n int) int {
		seed = seed*6364136223846793005 + 1442695040888963407
		return int(seed>>33) % n
	}
}

// shuffled is the numbers below n, in a drawn order.
func shuffled(draw func(int) int, n int) []int {
	l := make([]int, n)
	for i := range l {
		k := draw(i + 1)
		l[i], l[k] = l[k], i
	}
	return l
}

// model is a cache as the chapter says it: a list in the order of the row, gone through anew at each call.
type model struct {
	room int
	row  []held
}

func (m *model) at(k cache.Key) int {
	return slices.IndexFunc(m.row, func(h held) bool { return h.key == k })
}

func (m *model) sweep(now int) int {
	var left []held
	for _, h := range m.row {
		if now < h.until {
			left = append(left, h)
		}
	}
	n := len(m.row) - len(left)
	m.row = left
	return n
}

func (m *model) put(k cache.Key, l []api.Addr, ttl, now int) (cache.Key, bool) {
	if ttl < 1 {
		return cache.Key{}, false
	}
	if ttl > 604800 {
		ttl = 604800
	}
	h := held{k, now + ttl, slices.Clone(l)}
	if i := m.at(k); i >= 0 {
		m.row[i] = h
		return cache.Key{}, false
	}
	var gone cache.Key
	full := len(m.row) == m.room && m.sweep(now) == 0
	if full {
		first := 0
		for i := range m.row {
			if m.row[i].until < m.row[first].until {
				first = i
			}
		}
		gone = m.row[first].key
		m.row = slices.Delete(m.row, first, first+1)
	}
	i := 0
	for i < len(m.row) && ahead(m.row[i].key, k) {
		i++
	}
	m.row = slices.Insert(m.row, i, h)
	return gone, full
}

// ahead tells whether a key stands ahead of another one, byte by byte.
func ahead(a, b cache.Key) bool {
	for i := 0; i < len(a.Name) && i < len(b.Name); i++ {
		if a.Name[i] != b.Name[i] {
			return a.Name[i] < b.Name[i]
		}
	}
	if len(a.Name) != len(b.Name) {
		return len(a.Name) < len(b.Name)
	}
	return a.Type < b.Type
}

// drawn is a key of few names and types, and that name as somebody may write it.
func drawn(draw func(int) int) (cache.Key, string) {
	names := []string{"", "a", "b", "a.b", "ab", "www.test", "a\x80", "a\xc0", "\xe1", "\xc1", "[", "{"}
	name := names[draw(len(names))]
	kind := []int{1, 28, 1, 28, 0, -1}[draw(6)]
	asWritten := name
	// Bytes above 127 are kept out of what the library makes large: they have no letters.
	if strings.Trim(name, "abtestw.") == "" && draw(2) == 0 {
		asWritten = strings.ToUpper(name)
	}
	return cache.Key{Name: name, Type: kind}, asWritten
}

func drawnTtl(draw func(int) int) int {
	return []int{0, -1, 1, 2, 1 + draw(30), 1 + draw(30), 1 + draw(30), 604800, 604801, 1 << 62}[draw(10)]
}

// P10.1 to P10.3: all calls in any order, held against the model. Ticks fall at times: the chapter does not ask them to rise.
func TestAgainstTheModel(t *testing.T) {
	letGo, swept := 0, 0
	for seed := range 300 {
		draw := draws(uint64(seed))
		room := []int{0, 1, 2, 3, 5, 8, 20, 64, 70}[draw(9)]
		c, m := cache.New(room), &model{room: min(max(room, 1), 64)}
		now := []int{0, 1 << 39}[draw(2)]
		for range 300 {
			now = max(0, now+draw(8)-1)
			k, name := drawn(draw)
			switch draw(8) {
			default:
				l, ttl := some(draw(4)), drawnTtl(draw)
				noRoom := ttl > 0 && m.at(k) < 0 && len(m.row) == m.room
				want, wanted := m.put(k, l, ttl, now)
				if got, is := c.Put(name, k.Type, l, ttl, now); got != want || is != wanted {
					t.Fatalf("seed %d: Put(%q, %d, %d, %d): %v, %v, want %v, %v", seed, name, k.Type, ttl, now, got, is, want, wanted)
				}
				switch {
				case wanted:
					letGo++
				case noRoom:
					swept++
				}
			case 0:
				if got, want := c.Sweep(now), m.sweep(now); got != want {
					t.Fatalf("seed %d: Sweep(%d): %d, want %d", seed, now, got, want)
				}
			case 1, 2:
				i := m.at(k)
				if i < 0 {
					wantNone(t, c, name, k.Type)
				} else if h := m.row[i]; now < h.until {
					wantGet(t, c, name, k.Type, now, h.addrs...)
				} else {
					wantNoGet(t, c, name, k.Type, now)
				}
			}
			wantAll(t, c, m.row...)
			if c.Room() != m.room {
				t.Fatalf("seed %d: Room: %d, want %d", seed, c.Room(), m.room)
			}
			if t.Failed() {
				t.Fatalf("seed %d, at %d", seed, now)
			}
		}
	}
	if letGo < 1000 || swept < 1000 {
		t.Error("too few of a kind:", letGo, swept)
	}
}

// P10.3: what was put is told until it is over, if it is neither put anew nor let go; and never is there more than there is room for.
func TestWhatWasPutIsTold(t *testing.T) {
	for seed := range 100 {
		draw := draws(uint64(1000 + seed))
		c := cache.New(1 + draw(64))
		last := map[cache.Key]held{}
		now := draw(1 << 30)
		for range 400 {
			now += draw(4)
			k := cache.Key{Name: strings.Repeat("n", draw(20)), Type: draw(6)}
			l, ttl := some(draw(5)), 1+draw(100)
			if gone, is := c.Put(k.Name, k.Type, l, ttl, now); is {
				delete(last, gone)
			}
			last[k] = held{k, now + ttl, l}
			if draw(10) == 0 {
				c.Sweep(now)
			}
			if c.Len() > c.Room() || len(c.Keys()) != c.Len() {
				t.Fatalf("%d keys, %d entries, room for %d", len(c.Keys()), c.Len(), c.Room())
			}
			for _, h := range last {
				if now < h.until {
					wantGet(t, c, h.key.Name, h.key.Type, now, h.addrs...)
					wantUntil(t, c, h.key.Name, h.key.Type, h.until)
				} else {
					wantNoGet(t, c, h.key.Name, h.key.Type, now)
				}
			}
			if t.Failed() {
				t.Fatalf("seed %d, at %d", seed, now)
			}
		}
	}
}

// R5: two caches that were told the same answer the same, however their maps are laid.
func TestTheSameWasToldTheSameIsAnswered(t *testing.T) {
	for seed := range 50 {
		draw := draws(uint64(seed))
		room := 1 + draw(12)
		a, b := cache.New(room), cache.New(room)
		now := 0
		for range 200 {
			now += draw(3)
			k, name := drawn(draw)
			ttl := 1 + draw(4)
			gone, is := a.Put(name, k.Type, nil, ttl, now)
			other, too := b.Put(name, k.Type, nil, ttl, now)
			if gone != other || is != too {
				t.Fatalf("%v, %v and %v, %v", gone, is, other, too)
			}
			wantAll(t, b, heldBy(t, a)...)
		}
	}
}
