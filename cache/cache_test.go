package cache_test

import (
	"math"
	"slices"
	"strings"
	"testing"

	"abatis/addr"
	"abatis/api"
	"abatis/cache"
)

// lastTick is the last tick that there is.
const lastTick = 1 << 40

// held is an entry, as a cache's calls tell it.
type held struct {
	key   cache.Key
	until int
	addrs []api.Addr
}

func key(name string, kind int) cache.Key { return cache.Key{Name: name, Type: kind} }

// some is so many addresses, each another one.
func some(n int) []api.Addr {
	var l []api.Addr
	for i := range n {
		l = append(l, addr.Of4(uint32(i+1)))
	}
	return l
}

// heldBy is all entries of a cache, over or not: none is over at the tick 0, as no ttl is below 1.
func heldBy(t *testing.T, c *cache.Cache) []held {
	t.Helper()
	var all []held
	for _, k := range c.Keys() {
		until, is := c.Until(k.Name, k.Type)
		l, there := c.Get(k.Name, k.Type, 0)
		if !is || !there {
			t.Errorf("%v is among the keys, but is not there: %v, %v", k, is, there)
		}
		all = append(all, held{k, until, l})
	}
	return all
}

func same(a, b []held) bool {
	return slices.EqualFunc(a, b, func(x, y held) bool {
		return x.key == y.key && x.until == y.until && slices.Equal(x.addrs, y.addrs)
	})
}

func wantAll(t *testing.T, c *cache.Cache, want ...held) {
	t.Helper()
	if got := heldBy(t, c); !same(got, want) {
		t.Errorf("entries: %v, want %v", got, want)
	}
	if c.Len() != len(want) || c.Len() > c.Room() {
		t.Errorf("Len: %d of %d, want %d", c.Len(), c.Room(), len(want))
	}
}

func wantKeys(t *testing.T, c *cache.Cache, want ...cache.Key) {
	t.Helper()
	if got := c.Keys(); !slices.Equal(got, want) {
		t.Errorf("Keys: %v, want %v", got, want)
	}
	if c.Len() != len(want) {
		t.Errorf("Len: %d, want %d", c.Len(), len(want))
	}
}

func wantUntil(t *testing.T, c *cache.Cache, name string, kind, want int) {
	t.Helper()
	if got, is := c.Until(name, kind); got != want || !is {
		t.Errorf("Until(%q, %d): %d, %v, want %d", name, kind, got, is, want)
	}
}

func wantGet(t *testing.T, c *cache.Cache, name string, kind, now int, want ...api.Addr) {
	t.Helper()
	if got, is := c.Get(name, kind, now); !slices.Equal(got, want) || !is {
		t.Errorf("Get(%q, %d, %d): %v, %v, want %v", name, kind, now, got, is, want)
	}
}

func wantNoGet(t *testing.T, c *cache.Cache, name string, kind, now int) {
	t.Helper()
	if got, is := c.Get(name, kind, now); len(got) != 0 || is {
		t.Errorf("Get(%q, %d, %d): %v, %v, want none", name, kind, now, got, is)
	}
}

// wantNone asks for what is not there at all, over or not.
func wantNone(t *testing.T, c *cache.Cache, name string, kind int) {
	t.Helper()
	wantNoGet(t, c, name, kind, 0)
	if got, is := c.Until(name, kind); got != 0 || is {
		t.Errorf("Until(%q, %d): %d, %v, want none", name, kind, got, is)
	}
}

// put puts an entry for which nobody is let go.
func put(t *testing.T, c *cache.Cache, name string, kind int, l []api.Addr, ttl, now int) {
	t.Helper()
	if k, is := c.Put(name, kind, l, ttl, now); is || k != (cache.Key{}) {
		t.Errorf("Put(%q, %d, %d, %d): %v, %v is let go", name, kind, ttl, now, k, is)
	}
}

// putFor puts an entry for which another one is let go.
func putFor(t *testing.T, c *cache.Cache, name string, kind int, l []api.Addr, ttl, now int, want cache.Key) {
	t.Helper()
	if k, is := c.Put(name, kind, l, ttl, now); !is || k != want {
		t.Errorf("Put(%q, %d, %d, %d): %v, %v, want %v to be let go", name, kind, ttl, now, k, is, want)
	}
}

// P10.1, New

func TestNew(t *testing.T) {
	for room, want := range map[int]int{
		math.MinInt: 1, -1 << 32: 1, -64: 1, -1: 1, 0: 1, 1: 1, 2: 2, 3: 3, 31: 31, 63: 63, 64: 64,
		65: 64, 66: 64, 128: 64, 256: 64, 1<<32 + 1: 64, math.MaxInt: 64,
	} {
		c := cache.New(room)
		if c.Room() != want {
			t.Errorf("New(%d) has room for %d, want %d", room, c.Room(), want)
		}
		wantAll(t, c)
		wantNone(t, c, "", 0)
		wantNone(t, c, "a", 1)
		if n := c.Sweep(lastTick); n != 0 {
			t.Errorf("Sweep of no entries: %d", n)
		}
	}
}

func TestRoomIsForSoManyAndNoMore(t *testing.T) {
	for _, room := range []int{-5, 0, 1, 2, 63, 64, 65, 1000} {
		c := cache.New(room)
		for i := range c.Room() {
			put(t, c, "n", i, nil, 10+i, 0)
			if c.Len() != i+1 {
				t.Fatalf("room %d: %d entries behind %d", room, c.Len(), i+1)
			}
		}
		for i := range c.Room() {
			putFor(t, c, "n", 100+i, nil, 1000+i, 0, key("n", i))
			wantNone(t, c, "n", i)
			if c.Len() != c.Room() {
				t.Fatalf("room %d: %d entries", room, c.Len())
			}
		}
	}
}

func TestCachesAreApart(t *testing.T) {
	a, b := cache.New(1), cache.New(1)
	put(t, a, "a", 1, some(1), 60, 0)
	wantAll(t, b)
	put(t, b, "b", 1, some(2), 60, 0)
	a.Sweep(lastTick)
	wantAll(t, a)
	wantAll(t, b, held{key("b", 1), 60, some(2)})
}

// P10.1, keys

func TestNamesAreOfSmallLetters(t *testing.T) {
	const large, small = "ABCDEFGHIJKLMNOPQRSTUVWXYZ", "abcdefghijklmnopqrstuvwxyz"
	c := cache.New(3)
	put(t, c, "Www.A.TEST", 1, some(1), 60, 0)
	put(t, c, large, 1, some(2), 60, 0)
	wantAll(t, c, held{key(small, 1), 60, some(2)}, held{key("www.a.test", 1), 60, some(1)})
	for _, name := range []string{"www.a.test", "WWW.A.TEST", "wWw.A.tEsT"} {
		wantGet(t, c, name, 1, 0, some(1)...)
		wantUntil(t, c, name, 1, 60)
	}
	put(t, c, "wwW.a.Test", 1, some(3), 70, 0)
	wantAll(t, c, held{key(small, 1), 60, some(2)}, held{key("www.a.test", 1), 70, some(3)})
	// The key that is let go has small letters, too.
	c = cache.New(1)
	put(t, c, "Www.A.TEST", 28, nil, 60, 0)
	putFor(t, c, "b", 1, nil, 60, 0, key("www.a.test", 28))
}

// apart is names of which no two are one, though some are near others.
func apart() []string {
	return []string{
		"", " ", ".", "a", "a.", ".a", "a.b", "a b", "aa", "\x00", "a\x00", "\x00a",
		"@", "`", "[", "{", "\\", "|", "]", "}", "^", "~", "_", "\x7f", // 32 apart, but no letters
		"\x80", "\xa0", "\xc0", "\xe0", "\xdf", "\xff", "\xc3\x84", "\xc3\xa4", "\xe3\x84", "\xe3\xa4", "a\x80", "a\x81", "a\xff", "\x80a", "\x81a",
		"\u212a", "k", "\u0130", "i", "\u017f", "s", "\ufffd", "\xef\xbf", // whose letters are small by other rules
		strings.Repeat("a", 253), strings.Repeat("a", 254), strings.Repeat("a", 1<<12),
	}
}

func TestNamesThatPartInOneByte(t *testing.T) {
	c := cache.New(64)
	names := apart()
	for i, name := range names {
		put(t, c, name, 1, some(i), 60+i, 0)
	}
	if c.Len() != len(names) {
		t.Errorf("%d entries of %d names", c.Len(), len(names))
	}
	for i, name := range names {
		wantGet(t, c, name, 1, 0, some(i)...)
		wantUntil(t, c, name, 1, 60+i)
	}
}

func TestEachByteOfANameCounts(t *testing.T) {
	for i := range 256 {
		c := cache.New(1)
		put(t, c, "x"+string([]byte{byte(i)})+"y", 1, some(1), 60, 0)
		for k := range 256 {
			like := i == k || strings.EqualFold(string(rune(i)), string(rune(k))) && i < 128 && k < 128
			_, is := c.Until("x"+string([]byte{byte(k)})+"y", 1)
			if is != like {
				t.Errorf("the bytes %d and %d: %v", i, k, is)
			}
		}
	}
}

func TestTypesOfOneName(t *testing.T) {
	kinds := []int{math.MinInt, -1 << 32, -28, -1, 0, 1, 5, 28, 65535, 65536, 65537, 1 << 32, 1<<32 + 1, math.MaxInt}
	c := cache.New(64)
	var want []held
	for i, kind := range kinds {
		put(t, c, "a", kind, some(i), 60+i, 0)
		want = append(want, held{key("a", kind), 60 + i, some(i)})
	}
	wantAll(t, c, want...)
	for _, kind := range []int{math.MinInt + 1, -2, 2, 27, 29, 65538, 1<<32 + 28, math.MaxInt - 1} {
		wantNone(t, c, "a", kind)
	}
	for _, kind := range kinds {
		wantNone(t, c, "b", kind)
	}
}

func TestEmptyNameIsOneAsOthers(t *testing.T) {
	c := cache.New(1)
	put(t, c, "", 0, some(2), 60, 0)
	wantAll(t, c, held{key("", 0), 60, some(2)})
	wantGet(t, c, "", 0, 59, some(2)...)
	wantNone(t, c, "", 1)
	// Its key is the zero one; that it is let go is told all the same.
	putFor(t, c, "b", 1, nil, 60, 0, cache.Key{})
	wantNone(t, c, "", 0)
}

// P10.1, ttl, now and until

func TestUntilIsNowAndTtl(t *testing.T) {
	for _, now := range []int{0, 1, 2, 1 << 20, 1 << 32, lastTick - 1, lastTick} {
		for _, ttl := range []int{1, 2, 60, 1 << 16, 604799, 604800} {
			c := cache.New(1)
			put(t, c, "a", 1, some(1), ttl, now)
			wantUntil(t, c, "a", 1, now+ttl)
			wantGet(t, c, "a", 1, now, some(1)...)
		}
		for _, ttl := range []int{604801, 604802, 1 << 20, 1 << 31, 1 << 32, 1<<32 + 1, 1 << 40, math.MaxInt - 1, math.MaxInt} {
			c := cache.New(1)
			put(t, c, "a", 1, some(1), ttl, now)
			wantUntil(t, c, "a", 1, now+604800)
		}
	}
}

func TestNothingIsDoneOfTtlsBelowOne(t *testing.T) {
	for _, ttl := range []int{0, -1, -2, -604800, -1 << 32, -1<<32 + 1, math.MinInt, math.MinInt + 1} {
		for _, now := range []int{0, 1, 70, lastTick} {
			c := cache.New(3)
			put(t, c, "a", 1, some(1), ttl, now)
			wantAll(t, c)
			// At 70 and behind it one is over, at the last tick both are: none of them is taken out.
			want := []held{{key("a", 1), 60, some(1)}, {key("b", 1), 80, some(2)}}
			put(t, c, "a", 1, some(1), 60, 0)
			put(t, c, "b", 1, some(2), 80, 0)
			for _, name := range []string{"a", "A", "b", "c", ""} {
				put(t, c, name, 1, some(9), ttl, now)
				wantAll(t, c, want...)
			}
			// Nor are they where there is no room.
			want = append(want, held{key("c", 1), 90, nil})
			put(t, c, "c", 1, nil, 90, 0)
			for _, name := range []string{"a", "b", "C", "d", ""} {
				put(t, c, name, 1, some(9), ttl, now)
				wantAll(t, c, want...)
			}
		}
	}
}

func TestTheTicksAroundUntil(t *testing.T) {
	for _, until := range []int{1, 2, 60, 604800, lastTick, lastTick + 604800} {
		now := max(0, until-604800)
		c := cache.New(2)
		put(t, c, "a", 1, some(2), until-now, now)
		wantUntil(t, c, "a", 1, until)
		for _, ahead := range []int{0, until / 2, until - 1} {
			wantGet(t, c, "a", 1, ahead, some(2)...)
			if n := c.Sweep(ahead); n != 0 {
				t.Errorf("Sweep at %d of an entry until %d: %d", ahead, until, n)
			}
		}
		for _, behind := range []int{until, until + 1, until + 604800, math.MaxInt} {
			wantNoGet(t, c, "a", 1, behind)
			wantUntil(t, c, "a", 1, until)
		}
		if n := c.Sweep(until); n != 1 {
			t.Errorf("Sweep at %d of an entry until then: %d", until, n)
		}
		wantNone(t, c, "a", 1)
	}
}

// P10.1, Put of a key that there is

func TestPutInPlaceOfWhatItHad(t *testing.T) {
	for _, room := range []int{2, 3} {
		// Of each next one the until is greater, the same, less, and over already when it is put anew.
		c := cache.New(room)
		other := held{key("b", 1), 40, some(4)}
		put(t, c, "b", 1, some(4), 40, 0)
		for _, x := range []struct{ ttl, now, addrs int }{
			{60, 0, 1}, {60, 0, 1}, {60, 0, 3}, {70, 5, 2}, {5, 5, 2}, {1, 5, 0}, {60, 50, 5}, {60, 110, 1}, {1, lastTick, 1}, {604801, 0, 2},
		} {
			put(t, c, "a", 1, some(x.addrs), x.ttl, x.now)
			wantAll(t, c, held{key("a", 1), x.now + min(x.ttl, 604800), some(x.addrs)}, other)
		}
	}
}

func TestPutOfAKeyThatThereIsTakesOutNobody(t *testing.T) {
	// Both are over at 100, and there is no room; yet as the key has an entry, none is asked for.
	for _, name := range []string{"a", "b"} {
		c := cache.New(2)
		put(t, c, "a", 1, some(1), 10, 0)
		put(t, c, "b", 1, some(2), 20, 0)
		put(t, c, name, 1, some(3), 30, 100)
		want := map[string][]held{
			"a": {{key("a", 1), 130, some(3)}, {key("b", 1), 20, some(2)}},
			"b": {{key("a", 1), 10, some(1)}, {key("b", 1), 130, some(3)}},
		}
		wantAll(t, c, want[name]...)
	}
}

func TestPutWithRoomLeftTakesOutNobody(t *testing.T) {
	c := cache.New(3)
	put(t, c, "a", 1, some(1), 10, 0)
	put(t, c, "b", 1, some(2), 20, 0)
	put(t, c, "c", 1, some(3), 30, 100)
	wantAll(t, c, held{key("a", 1), 10, some(1)}, held{key("b", 1), 20, some(2)}, held{key("c", 1), 130, some(3)})
}

// P10.1, no room

// full is a cache of four entries, a to d, that are over at 10, 20, 30 and 40, put in some order.
func full(t *testing.T, order ...int) *cache.Cache {
	t.Helper()
	c := cache.New(4)
	for _, i := range order {
		put(t, c, string(rune('a'+i)), 1, some(i), 10*(i+1), 0)
	}
	return c
}

func TestFullOfWhatIsOver(t *testing.T) {
	for _, x := range []struct {
		now  int
		left []held
	}{
		{10, []held{{key("b", 1), 20, some(1)}, {key("c", 1), 30, some(2)}, {key("d", 1), 40, some(3)}}},
		{19, []held{{key("b", 1), 20, some(1)}, {key("c", 1), 30, some(2)}, {key("d", 1), 40, some(3)}}},
		{20, []held{{key("c", 1), 30, some(2)}, {key("d", 1), 40, some(3)}}},
		{30, []held{{key("d", 1), 40, some(3)}}},
		{39, []held{{key("d", 1), 40, some(3)}}},
		{40, nil},
		{lastTick, nil},
	} {
		for _, order := range [][]int{{0, 1, 2, 3}, {3, 2, 1, 0}, {2, 0, 3, 1}} {
			c := full(t, order...)
			put(t, c, "e", 1, some(9), 60, x.now)
			wantAll(t, c, append(slices.Clone(x.left), held{key("e", 1), x.now + 60, some(9)})...)
		}
	}
}

func TestFullOfWhatIsNotOver(t *testing.T) {
	for _, now := range []int{0, 1, 9} {
		for _, order := range [][]int{{0, 1, 2, 3}, {3, 2, 1, 0}, {2, 0, 3, 1}} {
			c := full(t, order...)
			putFor(t, c, "E", 1, some(9), 60, now, key("a", 1))
			wantAll(t, c, held{key("b", 1), 20, some(1)}, held{key("c", 1), 30, some(2)}, held{key("d", 1), 40, some(3)}, held{key("e", 1), now + 60, some(9)})
		}
	}
}

func TestLeastUntilIsLetGoNotTheFirstKey(t *testing.T) {
	c := cache.New(3)
	put(t, c, "a", 1, nil, 30, 0)
	put(t, c, "b", 1, nil, 10, 0)
	put(t, c, "c", 1, nil, 20, 0)
	putFor(t, c, "d", 1, nil, 40, 0, key("b", 1))
	putFor(t, c, "e", 1, nil, 50, 0, key("c", 1))
	putFor(t, c, "f", 1, nil, 60, 0, key("a", 1))
	wantKeys(t, c, key("d", 1), key("e", 1), key("f", 1))
}

func TestPutAnewIsAskedByItsNewUntil(t *testing.T) {
	c := full(t, 0, 1, 2, 3)
	put(t, c, "a", 1, nil, 100, 0)
	put(t, c, "d", 1, nil, 5, 0)
	putFor(t, c, "e", 1, nil, 60, 0, key("d", 1))
	putFor(t, c, "f", 1, nil, 60, 0, key("b", 1))
}

func TestWhoIsPutIsNeverLetGo(t *testing.T) {
	c := full(t, 0, 1, 2, 3)
	putFor(t, c, "e", 1, some(1), 1, 0, key("a", 1))
	wantAll(t, c, held{key("b", 1), 20, some(1)}, held{key("c", 1), 30, some(2)}, held{key("d", 1), 40, some(3)}, held{key("e", 1), 1, some(1)})
	// Who was let go comes in anew, and has nothing of what it had.
	putFor(t, c, "a", 1, nil, 2, 0, key("e", 1))
	wantAll(t, c, held{key("a", 1), 2, nil}, held{key("b", 1), 20, some(1)}, held{key("c", 1), 30, some(2)}, held{key("d", 1), 40, some(3)})
}

func TestRoomOfOne(t *testing.T) {
	c := cache.New(1)
	put(t, c, "a", 1, some(1), 60, 0)
	putFor(t, c, "b", 1, some(2), 60, 1, key("a", 1))
	wantAll(t, c, held{key("b", 1), 61, some(2)})
	putFor(t, c, "b", 28, some(3), 60, 60, key("b", 1))
	put(t, c, "c", 1, some(4), 60, 120)
	wantAll(t, c, held{key("c", 1), 180, some(4)})
	put(t, c, "C", 1, some(5), 1, 121)
	wantAll(t, c, held{key("c", 1), 122, some(5)})
	putFor(t, c, "d", 1, nil, 1, 121, key("c", 1))
}

func TestSeveralOfTheLeastUntil(t *testing.T) {
	row := []cache.Key{
		key("", -1), key("", 0), key("\x00", math.MinInt), key("a", -1), key("a", 1), key("a", 28), key("a", math.MaxInt), key("a\x00", 0), key("a.b", 5), key("aa", -5),
		key("b", math.MinInt), key("b", -1), key("b", 0), key("\x7f", 0), key("\x80", -1), key("\xff", -3), key("\xff\x00", -4),
	}
	draw := draws(10)
	for range 20 {
		c := cache.New(len(row) + 1)
		for _, i := range shuffled(draw, len(row)) {
			put(t, c, row[i].Name, row[i].Type, nil, 10+i%2, i%2) // all until 10, or 12
		}
		put(t, c, "", -9, nil, 11, 0) // ahead of all in the row, but not of the least until
		var first, then []cache.Key
		for i, k := range row {
			if i%2 == 0 {
				first = append(first, k)
			} else {
				then = append(then, k)
			}
		}
		for i, k := range slices.Concat(first, []cache.Key{key("", -9)}, then) {
			putFor(t, c, "z", i, nil, 100, 0, k)
		}
	}
}

// P10.1, addresses

func TestAddressesAreToldAsTheyWere(t *testing.T) {
	v6 := api.Addr{Fam: 6, B: [16]byte{0x20, 1, 15: 1}}
	odd := api.Addr{Fam: -7, B: [16]byte{15: 255}}
	for _, l := range [][]api.Addr{
		nil, {}, {{}}, {addr.Of4(1)}, {addr.Of4(2), addr.Of4(1), addr.Of4(2)}, {addr.Of4(1), addr.Of4(1), addr.Of4(2), addr.Of4(2)}, {v6, addr.Of4(1), v6}, {odd, {}, odd}, some(8), some(64), some(65), some(5000),
	} {
		c := cache.New(1)
		put(t, c, "a", 1, l, 60, 0)
		wantAll(t, c, held{key("a", 1), 60, l})
		wantGet(t, c, "a", 1, 59, l...)
		wantNoGet(t, c, "a", 1, 60)
	}
}

func TestNoAddressesAreAnEntryToo(t *testing.T) {
	for _, l := range [][]api.Addr{nil, {}, make([]api.Addr, 0, 3)} {
		c := cache.New(1)
		put(t, c, "a", 1, some(3), 60, 0)
		put(t, c, "a", 1, l, 60, 0)
		wantGet(t, c, "a", 1, 0)
		wantUntil(t, c, "a", 1, 60)
		putFor(t, c, "b", 1, l, 60, 0, key("a", 1))
	}
}

// R4

func TestWhatIsHandedInIsNotKept(t *testing.T) {
	l := append(make([]api.Addr, 0, 8), some(3)...)
	c := cache.New(2)
	put(t, c, "a", 1, l, 60, 0)
	put(t, c, "b", 1, l[:0], 60, 0)
	put(t, c, "b", 1, l[:2], 60, 0)
	if !slices.Equal(l, some(3)) || slices.ContainsFunc(l[3:cap(l)], func(a api.Addr) bool { return a != api.Addr{} }) {
		t.Error("Put changed its list, or its spare room:", l[:cap(l)])
	}
	clear(l[:cap(l)])
	wantAll(t, c, held{key("a", 1), 60, some(3)}, held{key("b", 1), 60, some(2)})
	c.Get("a", 1, 0)
	c.Sweep(lastTick)
	if slices.ContainsFunc(l[:cap(l)], func(a api.Addr) bool { return a != api.Addr{} }) {
		t.Error("a cache wrote into a list that was handed in:", l)
	}
}

func TestWhatGetTellsIsNewMemory(t *testing.T) {
	c := cache.New(2)
	put(t, c, "a", 1, some(3), 60, 0)
	put(t, c, "b", 1, append(make([]api.Addr, 0, 8), some(3)...), 60, 0)
	for _, name := range []string{"a", "b"} {
		one, _ := c.Get(name, 1, 0)
		two, _ := c.Get(name, 1, 0)
		clear(one)
		one = append(one[:1], addr.Of4(99))
		wantGet(t, c, name, 1, 0, some(3)...)
		if !slices.Equal(two, some(3)) {
			t.Error("two answers share memory:", two)
		}
		// What stands behind the end is no one's, either.
		one, two = append(two, addr.Of4(7)), append(two[:len(two):len(two)], addr.Of4(8))
		wantGet(t, c, name, 1, 0, some(3)...)
		if one[3] != addr.Of4(7) || two[3] != addr.Of4(8) {
			t.Error(one, two)
		}
	}
	// Nor is what was told changed by what comes later.
	was, _ := c.Get("a", 1, 0)
	put(t, c, "a", 1, []api.Addr{addr.Of4(50), addr.Of4(51), addr.Of4(52)}, 60, 0)
	c.Sweep(lastTick)
	if !slices.Equal(was, some(3)) {
		t.Error("an answer was changed afterwards:", was)
	}
}

func TestWhatKeysTellsIsNewMemory(t *testing.T) {
	want := []cache.Key{key("a", 1), key("b", 1), key("b", 28)}
	c := cache.New(4)
	for _, k := range want {
		put(t, c, k.Name, k.Type, some(1), 60, 0)
	}
	one, two := c.Keys(), c.Keys()
	for i := range one {
		one[i] = key("x", 9)
	}
	one = append(one[:1], key("y", 8))
	wantKeys(t, c, want...)
	wantNone(t, c, "x", 9)
	if !slices.Equal(two, want) {
		t.Error("two answers share memory:", one, two)
	}
	put(t, c, "a", 0, nil, 60, 0)
	c.Sweep(lastTick)
	if !slices.Equal(two, want) {
		t.Error("an answer was changed afterwards:", two)
	}
}

// P10.2, Get and Until

func TestGetOfWhatThereIsNot(t *testing.T) {
	c := cache.New(3)
	put(t, c, "a", 1, some(1), 60, 0)
	put(t, c, "b", 28, some(2), 60, 0)
	put(t, c, "", 5, some(3), 60, 0)
	for _, k := range []cache.Key{
		key("a", 28), key("a", 0), key("a", -1), key("a", 5), key("b", 1), key("b", 0), key("c", 1), key("c", 28), key("", 1), key("", 28), key("", 0),
		key("a.", 1), key(".a", 1), key("a ", 1), key("aa", 1), key("a\x00", 1), key("a", 1<<32+1), key("a", math.MinInt), key("a", math.MaxInt),
	} {
		wantNone(t, c, k.Name, k.Type)
	}
	wantAll(t, c, held{key("", 5), 60, some(3)}, held{key("a", 1), 60, some(1)}, held{key("b", 28), 60, some(2)})
}

func TestUntilOfWhatIsOver(t *testing.T) {
	c := cache.New(2)
	put(t, c, "a", 1, some(1), 5, 100)
	// Asked for at whatever tick, it stays as it is.
	for _, now := range []int{0, 104, 105, 106, lastTick, 104, 0} {
		l, is := c.Get("A", 1, now)
		if is != (now < 105) || len(l) > 0 != is {
			t.Errorf("Get at %d: %v, %v", now, l, is)
		}
		wantUntil(t, c, "A", 1, 105)
		wantKeys(t, c, key("a", 1))
	}
	c.Sweep(105)
	wantNone(t, c, "A", 1)
}

func TestAskingChangesNothing(t *testing.T) {
	c := full(t, 0, 1, 2, 3)
	was := heldBy(t, c)
	for _, now := range []int{0, 10, 25, 40, lastTick} {
		for _, name := range []string{"a", "D", "e", ""} {
			for _, kind := range []int{0, 1, 28} {
				c.Get(name, kind, now)
				c.Until(name, kind)
			}
		}
		c.Keys()
		c.Len()
		c.Room()
		wantAll(t, c, was...)
	}
}

// P10.2, Sweep

func TestSweep(t *testing.T) {
	for _, x := range []struct {
		now, want int
		left      []held
	}{
		{0, 0, []held{{key("a", 1), 10, some(0)}, {key("b", 1), 20, some(1)}, {key("c", 1), 30, some(2)}, {key("d", 1), 40, some(3)}}},
		{9, 0, []held{{key("a", 1), 10, some(0)}, {key("b", 1), 20, some(1)}, {key("c", 1), 30, some(2)}, {key("d", 1), 40, some(3)}}},
		{10, 1, []held{{key("b", 1), 20, some(1)}, {key("c", 1), 30, some(2)}, {key("d", 1), 40, some(3)}}},
		{29, 2, []held{{key("c", 1), 30, some(2)}, {key("d", 1), 40, some(3)}}},
		{30, 3, []held{{key("d", 1), 40, some(3)}}},
		{39, 3, []held{{key("d", 1), 40, some(3)}}},
		{40, 4, nil},
		{lastTick, 4, nil},
	} {
		for _, order := range [][]int{{0, 1, 2, 3}, {3, 2, 1, 0}, {1, 3, 0, 2}} {
			c := full(t, order...)
			if n := c.Sweep(x.now); n != x.want {
				t.Errorf("Sweep(%d): %d, want %d", x.now, n, x.want)
			}
			wantAll(t, c, x.left...)
			if n := c.Sweep(x.now); n != 0 {
				t.Errorf("Sweep(%d) again: %d", x.now, n)
			}
			wantAll(t, c, x.left...)
			if c.Room() != 4 {
				t.Error(c.Room())
			}
		}
	}
}

func TestSweepMakesRoom(t *testing.T) {
	c := cache.New(64)
	for i := range 64 {
		put(t, c, "n", i, some(1), 1+i%2, 0)
	}
	if n := c.Sweep(1); n != 32 {
		t.Error(n)
	}
	for i := range 32 {
		put(t, c, "m", i, some(2), 60, 1)
	}
	putFor(t, c, "m", 32, some(2), 60, 1, key("n", 1))
	if n := c.Sweep(lastTick); n != 64 {
		t.Error(n)
	}
	wantAll(t, c)
	put(t, c, "a", 1, some(1), 60, 0)
	wantAll(t, c, held{key("a", 1), 60, some(1)})
}

// P10.2, Keys

func TestKeysAreInTheirRow(t *testing.T) {
	row := []cache.Key{
		key("", math.MinInt), key("", 0), key("", math.MaxInt), key("\x00", 1), key("-", 1), key(".", 1), key("0", 1), key("10", 1), key("9", 1), key("[", 1), key("_", 1),
		key("a", math.MinInt), key("a", math.MinInt+1), key("a", -28), key("a", -1), key("a", 0), key("a", 1), key("a", 2), key("a", 10), key("a", 28), key("a", 1<<40), key("a", math.MaxInt),
		key("a\x00", -1), key("a-b", -1), key("a.", -1), key("a.a", -1), key("a.b", -1), key("aa", -1), key("aaa", -1), key("ab", -1), key("az", -1), key("a\x80", -1),
		key("b", -5), key("ba", -6), key("z", -7), key("zz", -8), key("{", -9), key("\x7f", -9), key("\x80", -9), key("\xc3\x84", -9), key("\xc3\xa4", -9), key("\xff", -9), key("\xff\xff", -9),
	}
	draw := draws(11)
	wantKeys(t, cache.New(64))
	for range 50 {
		c := cache.New(64)
		for _, i := range shuffled(draw, len(row)) {
			put(t, c, row[i].Name, row[i].Type, nil, 1+draw(60), draw(100))
		}
		wantKeys(t, c, row...)
	}
}

func TestKeysOfLargeLettersStandByTheirSmallOnes(t *testing.T) {
	c := cache.New(8)
	for _, name := range []string{"B", "_", "Z", "a", "C", "["} {
		put(t, c, name, 1, nil, 60, 0)
	}
	wantKeys(t, c, key("[", 1), key("_", 1), key("a", 1), key("b", 1), key("c", 1), key("z", 1))
}
