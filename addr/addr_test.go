package addr_test

import (
	"math"
	"net/netip"
	"slices"
	"strings"
	"testing"

	"abatis/addr"
	"abatis/api"
)

type raw = [16]byte

// fams is the families that are, and others.
var fams = []int{0, 4, 6, 1, 2, 3, 5, 7, 8, 10, 32, 46, 64, 128, 256 + 4, 256 + 6, 1<<32 + 4, 1<<32 + 6, -1, -4, -6, math.MaxInt, math.MinInt, math.MinInt + 4}

// bytesOfAllKinds is no bytes, each bit alone, all ones but a bit, rows of ones, mapped ones and such as nearly are, and many between.
func bytesOfAllKinds() []raw {
	ones := raw{}
	for i := range ones {
		ones[i] = 255
	}
	all := []raw{{}, ones}
	for i := range 128 {
		bit := byte(128) >> (i % 8)
		one, but, near := raw{}, ones, raw{10: 255, 11: 255, 12: 10, 15: 1}
		one[i/8], but[i/8] = bit, 255-bit
		near[i/8] ^= bit
		all = append(all, one, but, near)
	}
	for i := range 17 {
		var ahead, behind raw
		copy(ahead[:i], ones[:])
		copy(behind[i:], ones[:])
		all = append(all, ahead, behind)
	}
	n := uint64(1)
	for range 3000 {
		var b, short, map6 raw
		map6[10], map6[11] = 255, 255
		for i := range b {
			n = n*6364136223846793005 + 1442695040888963407
			b[i] = byte(n >> 56)
			if i < 4 {
				short[i], map6[12+i] = b[i], b[i]
			}
		}
		all = append(all, b, short, map6)
	}
	return all
}

// some is addresses of all kinds, those that may not be too.
func some() []api.Addr {
	var all []api.Addr
	for _, b := range bytesOfAllKinds() {
		for _, fam := range fams {
			all = append(all, api.Addr{Fam: fam, B: b})
		}
	}
	return all
}

func four(a, b, c, d byte) api.Addr {
	return api.Addr{Fam: 4, B: raw{a, b, c, d}}
}

func firstFour(b raw) uint32 {
	return uint32(b[0])*1<<24 + uint32(b[1])*1<<16 + uint32(b[2])*1<<8 + uint32(b[3])
}

func zeros(b []byte) bool {
	return !slices.ContainsFunc(b, func(c byte) bool { return c != 0 })
}

// P4.1, May

func TestMay(t *testing.T) {
	for _, c := range []struct {
		a    api.Addr
		want bool
	}{
		{api.Addr{}, true},
		{api.Addr{B: raw{1}}, false},
		{api.Addr{B: raw{3: 1}}, false},
		{api.Addr{B: raw{15: 1}}, false},
		{api.Addr{B: raw{7: 128}}, false},
		{four(0, 0, 0, 0), true},
		{four(10, 0, 0, 1), true},
		{four(255, 255, 255, 255), true},
		{api.Addr{Fam: 4, B: raw{4: 1}}, false},
		{api.Addr{Fam: 4, B: raw{4: 128}}, false},
		{api.Addr{Fam: 4, B: raw{15: 1}}, false},
		{api.Addr{Fam: 4, B: raw{10, 0, 0, 1, 9: 7}}, false},
		{api.Addr{Fam: 4, B: raw{10: 255, 11: 255, 12: 10, 15: 1}}, false},
		{api.Addr{Fam: 6}, true},
		{api.Addr{Fam: 6, B: raw{0: 255, 4: 1, 15: 255}}, true},
		{api.Addr{Fam: 6, B: raw{10: 255, 11: 255, 12: 10, 15: 1}}, true},
		{api.Addr{Fam: 5}, false},
		{api.Addr{Fam: 1}, false},
		{api.Addr{Fam: 7}, false},
		{api.Addr{Fam: 10}, false},
		{api.Addr{Fam: -4}, false},
		{api.Addr{Fam: -6}, false},
		{api.Addr{Fam: -1}, false},
		{api.Addr{Fam: math.MaxInt}, false},
		{api.Addr{Fam: math.MinInt}, false},
		{api.Addr{Fam: 5, B: raw{1, 2, 3, 4}}, false},
	} {
		if got := addr.May(c.a); got != c.want {
			t.Errorf("May(%v): %v", c.a, got)
		}
	}
}

func TestMayOfEachFamily(t *testing.T) {
	for _, a := range some() {
		want := a.Fam == 6 || a.Fam == 4 && zeros(a.B[4:]) || a.Fam == 0 && zeros(a.B[:])
		if got := addr.May(a); got != want {
			t.Errorf("May(%v): %v", a, got)
		}
	}
}

// P4.1, Of4, Of6 and Four

func TestOf4AndFour(t *testing.T) {
	for n, a := range map[uint32]api.Addr{
		0:              four(0, 0, 0, 0),
		1:              four(0, 0, 0, 1),
		0x01020304:     four(1, 2, 3, 4),
		0x0a000001:     four(10, 0, 0, 1),
		0x7f000001:     four(127, 0, 0, 1),
		0x80000000:     four(128, 0, 0, 0),
		0xc0a800ff:     four(192, 168, 0, 255),
		math.MaxUint32: four(255, 255, 255, 255),
	} {
		if got := addr.Of4(n); got != a || !addr.May(got) {
			t.Errorf("Of4(%x): %v, want %v", n, got, a)
		}
		if got := addr.Four(a); got != n {
			t.Errorf("Four(%v): %x, want %x", a, got, n)
		}
	}
}

func TestFourOfEachFamily(t *testing.T) {
	for _, a := range some() {
		if got := addr.Four(a); got != firstFour(a.B) {
			t.Errorf("Four(%v): %x", a, got)
		}
		if got, want := addr.Of4(addr.Four(a)), four(a.B[0], a.B[1], a.B[2], a.B[3]); got != want {
			t.Errorf("Of4(Four(%v)): %v", a, got)
		}
	}
}

func TestOf6(t *testing.T) {
	for g, b := range map[[8]uint16]raw{
		{}:                       {},
		{7: 1}:                   {15: 1},
		{1, 2, 3, 4, 5, 6, 7, 8}: {0, 1, 0, 2, 0, 3, 0, 4, 0, 5, 0, 6, 0, 7, 0, 8},
		{0x0102, 0x0304, 0x0506, 0x0708, 0x090a, 0x0b0c, 0x0d0e, 0x0f10}: {1, 2, 3, 4, 5, 6, 7, 8, 9, 10, 11, 12, 13, 14, 15, 16},
		{5: 0xffff, 6: 0x0a00, 7: 1}:                                     {10: 255, 11: 255, 12: 10, 15: 1},
		{0: 0xff00, 7: 0x00ff}:                                           {0: 255, 15: 255},
	} {
		want := api.Addr{Fam: 6, B: b}
		if got := addr.Of6(g); got != want || !addr.May(got) {
			t.Errorf("Of6(%x): %v, want %v", g, got, want)
		}
	}
}

// P4.1, Parse and Print

func wantParse(t *testing.T, s string, a api.Addr) {
	t.Helper()
	if got, is := addr.Parse(s); got != a || !is {
		t.Errorf("Parse(%q): %v %v, want %v", s, got, is, a)
	}
}

func wantNone(t *testing.T, s string) {
	t.Helper()
	if got, is := addr.Parse(s); got != (api.Addr{}) || is {
		t.Errorf("Parse(%q): %v %v, want none", s, got, is)
	}
}

func wantPrint(t *testing.T, a api.Addr, want string) {
	t.Helper()
	if got := addr.Print(a); got != want {
		t.Errorf("Print(%v): %q, want %q", a, got, want)
	}
}

func TestParseAndPrint(t *testing.T) {
	for s, a := range map[string]api.Addr{
		"0.0.0.0":            four(0, 0, 0, 0),
		"1.2.3.4":            four(1, 2, 3, 4),
		"10.0.0.1":           four(10, 0, 0, 1),
		"127.0.0.1":          four(127, 0, 0, 1),
		"255.255.255.255":    four(255, 255, 255, 255),
		"::":                 {Fam: 6},
		"::1":                {Fam: 6, B: raw{15: 1}},
		"1::":                {Fam: 6, B: raw{1: 1}},
		"2001:db8::":         {Fam: 6, B: raw{0x20, 1, 0xd, 0xb8}},
		"2001:db8::1:0:0:1":  {Fam: 6, B: raw{0: 0x20, 1: 1, 2: 0xd, 3: 0xb8, 9: 1, 15: 1}},
		"1:2:3:4:5:6:7:8":    {Fam: 6, B: raw{0, 1, 0, 2, 0, 3, 0, 4, 0, 5, 0, 6, 0, 7, 0, 8}},
		"::ffff:1.2.3.4":     {Fam: 6, B: raw{10: 255, 11: 255, 12: 1, 13: 2, 14: 3, 15: 4}},
		"::ffff:0.0.0.0":     {Fam: 6, B: raw{10: 255, 11: 255}},
		"::102:304":          {Fam: 6, B: raw{12: 1, 13: 2, 14: 3, 15: 4}},
		"::fffe:102:304":     {Fam: 6, B: raw{10: 255, 11: 254, 12: 1, 13: 2, 14: 3, 15: 4}},
		"102:304::":          {Fam: 6, B: raw{1, 2, 3, 4}},
		"fe80::abcd:0:0:ef0": {Fam: 6, B: raw{0: 0xfe, 1: 0x80, 8: 0xab, 9: 0xcd, 14: 0xe, 15: 0xf0}},
	} {
		wantParse(t, s, a)
		wantPrint(t, a, s)
	}
}

func TestParseOfTextsThatAreNotPrintedSo(t *testing.T) {
	for s, a := range map[string]api.Addr{
		"0:0:0:0:0:0:0:1":      {Fam: 6, B: raw{15: 1}},
		"FE80::00A1":           {Fam: 6, B: raw{0: 0xfe, 1: 0x80, 15: 0xa1}},
		"::1.2.3.4":            {Fam: 6, B: raw{12: 1, 13: 2, 14: 3, 15: 4}},
		"::FFFF:a00:1":         {Fam: 6, B: raw{10: 255, 11: 255, 12: 10, 15: 1}},
		"0:0:0:0:0:ffff::":     {Fam: 6, B: raw{10: 255, 11: 255}},
		"1:2:3:4:5:6:7.8.9.10": {Fam: 6, B: raw{0, 1, 0, 2, 0, 3, 0, 4, 0, 5, 0, 6, 7, 8, 9, 10}},
	} {
		wantParse(t, s, a)
	}
}

func TestParseOfWrongTexts(t *testing.T) {
	for _, s := range []string{
		"", " ", "a", "a.test", "localhost", ".", ":", "...", ":::", "0", "1", "4", "6",
		"1.2.3", "1.2", "127.1", "0x7f.1", "0x7f.0.0.1", "2130706433", "017.0.0.1", "01.2.3.4", "1.2.3.04", "00.0.0.0",
		"1.2.3.256", "256.0.0.0", "1.2.3.4.", "1.2.3.4.5", ".1.2.3.4", "1..3.4", "1.2.3.a", "1.2.3.-4", "+1.2.3.4",
		"1.2.3.4 ", " 1.2.3.4", "1.2.3.4\n", "1.2.3.4/8", "1.2.3.4:80", "1.2.3.4%0", "[1.2.3.4]", "1,2,3,4", "1.2.3.4\x00", "\uff11.2.3.4",
		"[::1]", "[::]", "::1/128", "::1%1", "fe80::1%eth0", " ::1", "::1 ", "::1\n", "::g", "::12345", "::00001", "1::2::3",
		"1:2:3:4:5:6:7", "1:2:3:4:5:6:7:8:9", "1:2:3:4:5:6:7:8::", ":1:2:3:4:5:6:7", "1:2:3:4:5:6:7:",
		"::1.2.3", "::1.2.3.04", "::1.2.3.256", "::ffff:0x7f.1", "::1.2.3.4:5", "1.2.3.4::", "1:2:3:4:5:6:7:1.2.3.4", "\xff", "::\xff",
		strings.Repeat("1.", 4000) + "1", strings.Repeat("1:", 4000) + "1", strings.Repeat("0", 4000), strings.Repeat(":", 4000), strings.Repeat(".", 4000),
	} {
		wantNone(t, s)
	}
}

func TestParseAgainstTheLibrary(t *testing.T) {
	texts := []string{""}
	read := map[int]int{}
	for range 7 {
		var longer []string
		for _, s := range texts {
			for _, piece := range []string{".", ":", "1", "0", "25"} {
				longer = append(longer, s+piece)
			}
		}
		texts = longer
		for _, s := range texts {
			a, err := netip.ParseAddr(s)
			switch {
			case err != nil:
				wantNone(t, s)
			case a.Is4():
				b := a.As4()
				wantParse(t, s, four(b[0], b[1], b[2], b[3]))
				read[4]++
			default:
				wantParse(t, s, api.Addr{Fam: 6, B: a.As16()})
				read[6]++
			}
		}
	}
	if read[4] < 50 || read[6] < 50 {
		t.Error("too few of the texts are addresses:", read)
	}
}

func TestPrintOfEachFamily(t *testing.T) {
	for _, a := range some() {
		want := ""
		switch a.Fam {
		case 4:
			want = netip.AddrFrom4([4]byte(a.B[:4])).String()
		case 6:
			want = netip.AddrFrom16(a.B).String()
		}
		wantPrint(t, a, want)
	}
}

// P4.2, Unmap and Map

func TestUnmapAndMap(t *testing.T) {
	for _, c := range []struct{ a, m api.Addr }{
		{four(10, 0, 0, 1), api.Addr{Fam: 6, B: raw{10: 255, 11: 255, 12: 10, 15: 1}}},
		{four(0, 0, 0, 0), api.Addr{Fam: 6, B: raw{10: 255, 11: 255}}},
		{four(1, 2, 3, 4), api.Addr{Fam: 6, B: raw{10: 255, 11: 255, 12: 1, 13: 2, 14: 3, 15: 4}}},
		{four(255, 255, 255, 255), api.Addr{Fam: 6, B: raw{10: 255, 11: 255, 12: 255, 13: 255, 14: 255, 15: 255}}},
	} {
		if got := addr.Unmap(c.m); got != c.a {
			t.Errorf("Unmap(%v): %v, want %v", c.m, got, c.a)
		}
		if got := addr.Unmap(c.a); got != c.a {
			t.Errorf("Unmap(%v): %v", c.a, got)
		}
		if got := addr.Map(c.a); got != c.m {
			t.Errorf("Map(%v): %v, want %v", c.a, got, c.m)
		}
		if got := addr.Map(c.m); got != c.m {
			t.Errorf("Map(%v): %v", c.m, got)
		}
	}
}

func TestUnmapOfNearlyMapped(t *testing.T) {
	for _, a := range []api.Addr{
		{Fam: 6},
		{Fam: 6, B: raw{12: 10, 15: 1}},
		{Fam: 6, B: raw{10: 255, 12: 10, 15: 1}},
		{Fam: 6, B: raw{11: 255, 12: 10, 15: 1}},
		{Fam: 6, B: raw{10: 254, 11: 255, 12: 10, 15: 1}},
		{Fam: 6, B: raw{10: 255, 11: 254, 12: 10, 15: 1}},
		{Fam: 6, B: raw{9: 1, 10: 255, 11: 255, 12: 10, 15: 1}},
		{Fam: 6, B: raw{0: 1, 10: 255, 11: 255, 12: 10, 15: 1}},
		{Fam: 6, B: raw{9: 255, 10: 255, 12: 10, 15: 1}},
		{Fam: 6, B: raw{11: 255, 12: 255, 13: 10}},
		{Fam: 6, B: raw{0: 255, 1: 255, 2: 10}},
		{Fam: 0, B: raw{10: 255, 11: 255, 12: 10, 15: 1}},
		{Fam: 4, B: raw{10: 255, 11: 255, 12: 10, 15: 1}},
		{Fam: 5, B: raw{10: 255, 11: 255, 12: 10, 15: 1}},
		{Fam: -6, B: raw{10: 255, 11: 255, 12: 10, 15: 1}},
		{Fam: 4, B: raw{10, 0, 0, 1, 7: 1}},
		{},
	} {
		if got := addr.Unmap(a); got != a {
			t.Errorf("Unmap(%v): %v, want it as it is", a, got)
		}
	}
}

func TestMapOfFirstFourBytesAlone(t *testing.T) {
	want := api.Addr{Fam: 6, B: raw{10: 255, 11: 255, 12: 10, 15: 1}}
	for i := 4; i < 16; i++ {
		a := four(10, 0, 0, 1)
		a.B[i] = 7
		if got := addr.Map(a); got != want {
			t.Errorf("Map(%v): %v, want %v", a, got, want)
		}
	}
	if got := addr.Map(api.Addr{Fam: 4, B: want.B}); got != (api.Addr{Fam: 6, B: raw{10: 255, 11: 255}}) {
		t.Error(got)
	}
}

func TestUnmapAndMapOfEachFamily(t *testing.T) {
	for _, a := range some() {
		unmapped, mapped := a, a
		if a.Fam == 6 && zeros(a.B[:10]) && a.B[10] == 255 && a.B[11] == 255 {
			unmapped = four(a.B[12], a.B[13], a.B[14], a.B[15])
		}
		if a.Fam == 4 {
			mapped = api.Addr{Fam: 6, B: raw{10: 255, 11: 255, 12: a.B[0], 13: a.B[1], 14: a.B[2], 15: a.B[3]}}
		}
		if got := addr.Unmap(a); got != unmapped {
			t.Errorf("Unmap(%v): %v, want %v", a, got, unmapped)
		}
		if got := addr.Map(a); got != mapped {
			t.Errorf("Map(%v): %v, want %v", a, got, mapped)
		}
	}
}

// P4.2, Bits and Bit

func TestBits(t *testing.T) {
	for _, b := range []raw{{}, {1}, {15: 255}, {10: 255, 11: 255}} {
		for _, fam := range fams {
			want := map[int]int{4: 32, 6: 128}[fam]
			if got := addr.Bits(api.Addr{Fam: fam, B: b}); got != want {
				t.Errorf("Bits of Fam %d: %d, want %d", fam, got, want)
			}
		}
	}
}

func wantBit(t *testing.T, a api.Addr, i, want int) {
	t.Helper()
	if got := addr.Bit(a, i); got != want {
		t.Errorf("Bit(%v, %d): %d, want %d", a, i, got, want)
	}
}

func TestBit(t *testing.T) {
	first, last := four(128, 0, 0, 0), four(0, 0, 0, 1)
	wantBit(t, first, 0, 1)
	wantBit(t, first, 1, 0)
	wantBit(t, first, 7, 0)
	wantBit(t, last, 31, 1)
	wantBit(t, last, 30, 0)
	wantBit(t, last, 24, 0)
	first, last = api.Addr{Fam: 6, B: raw{128}}, api.Addr{Fam: 6, B: raw{15: 1}}
	wantBit(t, first, 0, 1)
	wantBit(t, first, 7, 0)
	wantBit(t, last, 127, 1)
	wantBit(t, last, 126, 0)
	wantBit(t, four(10, 0, 0, 1), 4, 1)
	wantBit(t, four(10, 0, 0, 1), 5, 0)
	wantBit(t, four(10, 0, 0, 1), 6, 1)
	wantBit(t, api.Addr{Fam: 6, B: raw{4: 128}}, 32, 1)
}

func TestBitThatIsNot(t *testing.T) {
	ones := raw{}
	for i := range ones {
		ones[i] = 255
	}
	beyond := []int{-1, -2, -7, -8, -9, -32, -128, 128, 129, 135, 136, 1000, 1 << 32, 1<<32 + 1, math.MaxInt, math.MinInt, math.MaxInt - 7, math.MinInt + 1}
	for _, fam := range fams {
		a := api.Addr{Fam: fam, B: ones}
		for _, i := range beyond {
			wantBit(t, a, i, 0)
		}
		for i := range 128 {
			want := 0
			if fam == 6 || fam == 4 && i < 32 {
				want = 1
			}
			wantBit(t, a, i, want)
		}
	}
}

func TestBitIsTheHighestFirst(t *testing.T) {
	for _, b := range bytesOfAllKinds() {
		for _, fam := range []int{4, 6} {
			a := api.Addr{Fam: fam, B: b}
			var got raw
			for i := range addr.Bits(a) {
				got[i/8] = got[i/8]*2 + byte(addr.Bit(a, i))
			}
			if n := addr.Bits(a) / 8; !slices.Equal(got[:n], b[:n]) {
				t.Errorf("the bits of %v: %v", a, got)
			}
		}
	}
}

// P4.2, Compare

func TestCompare(t *testing.T) {
	row := []api.Addr{
		{Fam: math.MinInt, B: raw{9}},
		{Fam: -6},
		{Fam: -4, B: raw{255}},
		{Fam: -1},
		{},
		{B: raw{15: 1}},
		{B: raw{1}},
		{Fam: 4},
		{Fam: 4, B: raw{15: 1}},
		{Fam: 4, B: raw{15: 128}},
		{Fam: 4, B: raw{14: 1}},
		{Fam: 4, B: raw{4: 1}},
		{Fam: 4, B: raw{3: 1}},
		{Fam: 4, B: raw{10, 0, 0, 1}},
		{Fam: 4, B: raw{10, 0, 0, 2}},
		{Fam: 4, B: raw{10, 0, 0, 127}},
		{Fam: 4, B: raw{10, 0, 0, 128}},
		{Fam: 4, B: raw{10, 0, 0, 255}},
		{Fam: 4, B: raw{10, 0, 1, 0}},
		{Fam: 4, B: raw{127}},
		{Fam: 4, B: raw{128}},
		{Fam: 4, B: raw{255, 255, 255, 255}},
		{Fam: 5},
		{Fam: 6},
		{Fam: 6, B: raw{15: 1}},
		{Fam: 6, B: raw{15: 127}},
		{Fam: 6, B: raw{15: 128}},
		{Fam: 6, B: raw{15: 255}},
		{Fam: 6, B: raw{10: 255, 11: 255, 12: 10}},
		{Fam: 6, B: raw{127, 255}},
		{Fam: 6, B: raw{128}},
		{Fam: 6, B: raw{128, 15: 1}},
		{Fam: 7},
		{Fam: 256},
		{Fam: math.MaxInt},
	}
	for i, a := range row {
		for j, b := range row {
			want := 0
			if i < j {
				want = -1
			} else if i > j {
				want = 1
			}
			if got := addr.Compare(a, b); got != want {
				t.Errorf("Compare(%v, %v): %d, want %d", a, b, got, want)
			}
		}
	}
}

func TestCompareOfEachByteAlone(t *testing.T) {
	for _, fam := range fams {
		for i := range 16 {
			for _, c := range [][2]byte{{0, 1}, {127, 128}, {1, 200}, {128, 255}} {
				a, b := api.Addr{Fam: fam}, api.Addr{Fam: fam}
				a.B[i], b.B[i] = c[0], c[1]
				for k := i + 1; k < 16; k++ {
					a.B[k] = 255 // a later byte counts only where the earlier ones are the same
				}
				if addr.Compare(a, b) != -1 || addr.Compare(b, a) != 1 || addr.Compare(a, a) != 0 {
					t.Errorf("Compare(%v, %v): %d", a, b, addr.Compare(a, b))
				}
			}
		}
	}
}

// P4.3

func TestPrintedIsReadAsItWas(t *testing.T) {
	for _, a := range some() {
		if a.Fam != 0 && addr.May(a) {
			wantParse(t, addr.Print(a), a)
		}
	}
	wantNone(t, addr.Print(api.Addr{}))
}

func TestWhatIsReadMayBe(t *testing.T) {
	for _, s := range []string{"1.2.3.4", "0.0.0.0", "::", "::ffff:1.2.3.4", "1:2:3:4:5:6:7:8", "", "x"} {
		if a, _ := addr.Parse(s); !addr.May(a) {
			t.Errorf("Parse(%q): %v", s, a)
		}
	}
}

func TestMapAndUnmapLeadBack(t *testing.T) {
	for _, a := range some() {
		if !addr.May(a) {
			continue
		}
		if got := addr.Unmap(addr.Map(a)); got != addr.Unmap(a) || a.Fam == 4 && got != a {
			t.Errorf("Unmap(Map(%v)): %v", a, got)
		}
		if got := addr.Map(addr.Unmap(a)); got != addr.Map(a) || a.Fam == 6 && got != a {
			t.Errorf("Map(Unmap(%v)): %v", a, got)
		}
	}
}
