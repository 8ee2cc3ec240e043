package six_test

import (
	"fmt"
	"net/netip"
	"strings"
	"testing"

	"abatis/six"
)

type groups = [8]uint16

// words is all texts over the pieces with at most so many of them.
func words(pieces []string, most int) []string {
	all := []string{""}
	for from := 0; most > 0; most-- {
		to := len(all)
		for _, w := range all[from:to] {
			for _, p := range pieces {
				all = append(all, w+p)
			}
		}
		from = to
	}
	return all
}

func wantParse(t *testing.T, s string, g groups) {
	t.Helper()
	if got, is := six.Parse(s); got != g || !is {
		t.Errorf("Parse(%q): %x %v, want %x", s, got, is, g)
	}
}

func wantNone(t *testing.T, s string) {
	t.Helper()
	if got, is := six.Parse(s); got != (groups{}) || is {
		t.Errorf("Parse(%q): %x %v, want none", s, got, is)
	}
}

func wantPrint(t *testing.T, g groups, want string) {
	t.Helper()
	if got := six.Print(g); got != want {
		t.Errorf("Print(%x): %q, want %q", g, got, want)
	}
}

func wantRun(t *testing.T, g groups, at, n int) {
	t.Helper()
	if gotAt, gotN := six.Run(g); gotAt != at || gotN != n {
		t.Errorf("Run(%x): %d %d, want %d %d", g, gotAt, gotN, at, n)
	}
}

// P3.1, Parse

func TestParseOfEightGroups(t *testing.T) {
	for s, g := range map[string]groups{
		"1:2:3:4:5:6:7:8":                         {1, 2, 3, 4, 5, 6, 7, 8},
		"0:0:0:0:0:0:0:0":                         {},
		"0000:0000:0000:0000:0000:0000:0000:0000": {},
		"0001:002:03:4:0005:006:07:8":             {1, 2, 3, 4, 5, 6, 7, 8},
		"ffff:ffff:ffff:ffff:ffff:ffff:ffff:ffff": {0xffff, 0xffff, 0xffff, 0xffff, 0xffff, 0xffff, 0xffff, 0xffff},
		"FFFF:fFfF:aBcD:AbCd:a:B:c:D":             {0xffff, 0xffff, 0xabcd, 0xabcd, 10, 11, 12, 13},
		"2001:DB8:0:0:1:0:0:1":                    {0x2001, 0xdb8, 0, 0, 1, 0, 0, 1},
		"10:100:1000:9:99:999:9999:f0":            {0x10, 0x100, 0x1000, 9, 0x99, 0x999, 0x9999, 0xf0},
	} {
		wantParse(t, s, g)
	}
}

func TestParseOfTwoColons(t *testing.T) {
	for s, g := range map[string]groups{
		"::":                  {},
		"::0":                 {},
		"0::":                 {},
		"0::0":                {},
		"::1":                 {7: 1},
		"1::":                 {0: 1},
		"1::8":                {0: 1, 7: 8},
		"1:2::8":              {0: 1, 1: 2, 7: 8},
		"1::7:8":              {0: 1, 6: 7, 7: 8},
		"1:2:3::6:7:8":        {1, 2, 3, 0, 0, 6, 7, 8},
		"1:0::0:8":            {0: 1, 7: 8},
		"::2:3:4:5:6:7:8":     {0, 2, 3, 4, 5, 6, 7, 8},
		"1::3:4:5:6:7:8":      {1, 0, 3, 4, 5, 6, 7, 8},
		"1:2:3:4::6:7:8":      {1, 2, 3, 4, 0, 6, 7, 8},
		"1:2:3:4:5:6::8":      {1, 2, 3, 4, 5, 6, 0, 8},
		"1:2:3:4:5:6:7::":     {1, 2, 3, 4, 5, 6, 7, 0},
		"0:0:0:0:0:0:0::":     {},
		"::0:0:0:0:0:0:0":     {},
		"FE80::aB:0000":       {0: 0xfe80, 6: 0xab},
		"0abc::000d":          {0: 0xabc, 7: 13},
		"2001:db8::1:0:0:1":   {0x2001, 0xdb8, 0, 0, 1, 0, 0, 1},
		"2001:db8:0:0:1::1":   {0x2001, 0xdb8, 0, 0, 1, 0, 0, 1},
		"2001:db8::0:1:0:0:1": {0x2001, 0xdb8, 0, 0, 1, 0, 0, 1},
	} {
		wantParse(t, s, g)
	}
}

func TestParseOfStrictText(t *testing.T) {
	for s, g := range map[string]groups{
		"1:2:3:4:5:6:7.8.9.10":          {1, 2, 3, 4, 5, 6, 0x708, 0x90a},
		"0:0:0:0:0:0:0.0.0.0":           {},
		"::0.0.0.0":                     {},
		"::1.2.3.4":                     {6: 0x102, 7: 0x304},
		"::255.255.255.255":             {6: 0xffff, 7: 0xffff},
		"::0.0.0.1":                     {7: 1},
		"::0.1.0.0":                     {6: 1},
		"::ffff:1.2.3.4":                {5: 0xffff, 6: 0x102, 7: 0x304},
		"::FFFF:192.168.0.1":            {5: 0xffff, 6: 0xc0a8, 7: 1},
		"0:0:0:0:0:ffff:1.2.3.4":        {5: 0xffff, 6: 0x102, 7: 0x304},
		"64:ff9b::1.2.3.4":              {0: 0x64, 1: 0xff9b, 6: 0x102, 7: 0x304},
		"1:2:3:4:5::1.2.3.4":            {1, 2, 3, 4, 5, 0, 0x102, 0x304},
		"::2:3:4:5:6:1.2.3.4":           {0, 2, 3, 4, 5, 6, 0x102, 0x304},
		"1:2::5:6:10.20.30.40":          {1, 2, 0, 0, 5, 6, 0xa14, 0x1e28},
		"1:2:3:4:5:6:255.255.255.255":   {1, 2, 3, 4, 5, 6, 0xffff, 0xffff},
		"1::100.101.102.103":            {0: 1, 6: 0x6465, 7: 0x6667},
		"0001:2:03:4:5:006:16.16.16.16": {1, 2, 3, 4, 5, 6, 0x1010, 0x1010},
	} {
		wantParse(t, s, g)
	}
}

func TestParseOfWrongColons(t *testing.T) {
	for _, s := range []string{
		"", ":", ":::", "::::", ":::::", ": :", ": ", " ::", ":: ", "::\n", "::\x00",
		":1", "1:", ":1:", "1:::", ":::1", "1:::2", ":::1.2.3.4", "1::::2",
		"::1::", "1::2::3", "1::2::", "::1::2", "1::::", "::::1", "::1:2::3", "1::2:3::4.5.6.7",
		":1::", "::1:", ":1::2", "1::2:", ":1::2:", ":1:2:3:4:5:6:7", "1:2:3:4:5:6:7:",
		":1:2:3:4:5:6:7:8", "1:2:3:4:5:6:7:8:", ":2:3:4:5:6:7:8:", "1:2:3:4:5:6:7:::", ":::2:3:4:5:6:7:8", "1:2:3:::6:7:8",
		":1.2.3.4", "1.2.3.4:", ":1:2:3:4:5:6:1.2.3.4", "1:2:3:4:5:6:1.2.3.4:", "::1.2.3.4:",
	} {
		wantNone(t, s)
	}
}

func TestParseOfTooFewOrTooManyGroups(t *testing.T) {
	for _, s := range []string{
		"1", "0", "ffff", "1:2", "1:2:3:4:5:6", "1:2:3:4:5:6:7", "0:0:0:0:0:0:0",
		"1:2:3:4:5:6:7:8:9", "0:0:0:0:0:0:0:0:0", "1:2:3:4:5:6:7:8:9:a",
		"1:2:3:4:5:6:7:8::", "::1:2:3:4:5:6:7:8", "1:2:3:4::5:6:7:8", "1::2:3:4:5:6:7:8", "0:0:0:0::0:0:0:0",
		"1:2:3:4:5:6:7:8:9::", "::1:2:3:4:5:6:7:8:9", "1:2:3:4:5::6:7:8:9",
		"1.2.3.4", "1:1.2.3.4", "1:2:3:4:5:1.2.3.4", "1:2:3:4:5:6:7:1.2.3.4", "1:2:3:4:5:6:7:8:1.2.3.4",
		"::1:2:3:4:5:6:1.2.3.4", "1:2:3:4:5:6::1.2.3.4", "1:2:3::4:5:6:1.2.3.4", "1:2:3:4:5:6:7::1.2.3.4",
		strings.Repeat("1:", 4000) + "1", "::" + strings.Repeat("1:", 4000) + "1", strings.Repeat("1:", 4000) + ":", strings.Repeat(":", 4000),
	} {
		wantNone(t, s)
	}
}

func TestParseOfWrongGroups(t *testing.T) {
	for _, bad := range []string{
		"12345", "00000", "00001", "0ffff", "fffff", "10000", "g", "G", "fffg", "gfff", "x", "0x1", "0X1", "1x",
		"+1", "-1", "-0", "1_0", " 1", "1 ", "1\t", "1.", ".1", "1.2", "%1", "1%a", "1/8", "[1]", "[1", "1]",
		"\xff", "1\xff", "\u0661", "\uff11", "\uff41", "1\x00", "18446744073709551617", "10000000000000001", "10000000001",
		strings.Repeat("0", 4000), strings.Repeat("f", 4000), strings.Repeat("0", 4000) + "1",
	} {
		for i := range 8 {
			whole := strings.Split("1:2:3:4:5:6:7:8", ":")
			whole[i] = bad
			wantNone(t, strings.Join(whole, ":"))
		}
		wantNone(t, bad+"::")
		wantNone(t, "::"+bad)
		wantNone(t, "1::"+bad)
		wantNone(t, bad+"::1")
		wantNone(t, "1:"+bad+"::1:2")
		wantNone(t, "1:2::"+bad+":2")
		wantNone(t, "::"+bad+":1.2.3.4")
	}
	wantNone(t, "[::1]")
	wantNone(t, "fe80::1%1")
	wantNone(t, "fe80::1%eth0")
	wantNone(t, "::1/128")
}

func TestParseOfStrictTextAtAnotherPlace(t *testing.T) {
	for _, s := range []string{
		"1.2.3.4::", "1.2.3.4::1", "::1.2.3.4:5", "1::1.2.3.4:5", "1:1.2.3.4::", "1:1.2.3.4::5", "1.2.3.4::5.6.7.8",
		"1.2.3.4:3:4:5:6:7:8", "1:2:3.4.5.6:5:6:7:8", "1:2:3:4:5:1.2.3.4:8", "::1.2.3.4:5.6.7.8", "1.2.3.4:5.6.7.8:9.10.11.12:13.14.15.16",
		"1:2:3:4:5:1.2.3.4::", "1:2:3:4:5:6:1.2.3.4::", "::1.2.3.4::", "1.2.3.4:", "::1.2.3.41:1",
	} {
		wantNone(t, s)
	}
}

func TestParseOfTextThatIsNotStrict(t *testing.T) {
	for _, bad := range []string{
		"1.2.3", "1.2.3.", "1.2.3.4.", ".1.2.3", ".1.2.3.4", "1.2.3.4.5", "1..2.3", "1.2", "1.", ".", "...", "....",
		"1.2.3.04", "01.2.3.4", "00.0.0.0", "1.2.3.256", "256.2.3.4", "1.2.3.1000", "0x1.2.3.4", "1.2.3.0x4", "1.2.3.a", "f.2.3.4",
		"+1.2.3.4", "1.2.3.-4", " 1.2.3.4", "1.2.3.4 ", "1.2.3.4\n", "1.2.3.4/8", "1.2.3.4%1", "0x7f.1", "127.1", "2130706433",
	} {
		wantNone(t, "::"+bad)
		wantNone(t, "::ffff:"+bad)
		wantNone(t, "1:2:3:4:5:6:"+bad)
		wantNone(t, "1:2:3:4:5::"+bad)
		wantNone(t, bad)
	}
}

func TestParseGroupOfEachSign(t *testing.T) {
	at := map[int]uint16{}
	for i, c := range "0123456789abcdef" {
		at[int(c)] = uint16(i)
		at[int(strings.ToUpper(string(c))[0])] = uint16(i)
	}
	for c := range 256 {
		sign := string([]byte{byte(c)})
		n, is := at[c]
		switch {
		case c == ':':
			wantParse(t, "1"+sign+":", groups{0: 1})
			wantNone(t, "::1"+sign)
		case is:
			wantParse(t, "1"+sign+"::", groups{0: 16 + n})
			wantParse(t, "::"+sign, groups{7: n})
			wantParse(t, "1:2:3:"+sign+"00"+sign+":5:6:7:8", groups{1, 2, 3, n<<12 | n, 5, 6, 7, 8})
		default:
			wantNone(t, "1"+sign+"::")
			wantNone(t, "::"+sign)
			wantNone(t, "1:2:3:"+sign+"00"+sign+":5:6:7:8")
		}
	}
}

// byTheLibrary tells what the library reads; it has zones and addresses of 32 bits beside, which are none here.
func byTheLibrary(s string) (groups, bool) {
	a, err := netip.ParseAddr(s)
	if err != nil || a.Is4() || a.Zone() != "" {
		return groups{}, false
	}
	return six.Of(a.As16()), true
}

func holdAgainstTheLibrary(t *testing.T, s string) bool {
	t.Helper()
	g, is := byTheLibrary(s)
	if is {
		wantParse(t, s, g)
	} else {
		wantNone(t, s)
	}
	return is
}

func TestParseAgainstTheLibrary(t *testing.T) {
	read := 0
	for _, pieces := range [][]string{
		{":", "1", "0", "F"},
		{":", "a:"},
		{":", "1:", "00f0", "1.2.3.4"},
		{"::", "1:2:3:", "4:", "5", "6.7.8.9"},
		{":", "::", "1:", "0:0"},
	} {
		most := 8
		if len(pieces) == 2 {
			most = 14
		}
		for _, s := range words(pieces, most) {
			if holdAgainstTheLibrary(t, s) {
				read++
			}
		}
	}
	if read < 1000 {
		t.Error("too few of the texts are addresses:", read)
	}
}

func TestParseOfEachNumberOfGroups(t *testing.T) {
	names := []string{"1", "02", "003", "0004", "abcd", "EF", "0", "8", "9", "a"}
	for ahead := range len(names) + 1 {
		for behind := range len(names) + 1 {
			for _, colon := range []string{"::", ":"} {
				for _, tail := range []string{"", ":1.2.3.4", "1.2.3.4", ":1.2.3.04"} {
					s := strings.Join(names[:ahead], ":") + colon + strings.Join(names[:behind], ":") + tail
					holdAgainstTheLibrary(t, s)
				}
			}
		}
	}
}

// P3.1, Print and Run

func TestPrint(t *testing.T) {
	for want, g := range map[string]groups{
		"::":                        {},
		"::1":                       {7: 1},
		"1::":                       {0: 1},
		"::1:0":                     {6: 1},
		"0:1::":                     {1: 1},
		"1:2:3:4:5:6:7:8":           {1, 2, 3, 4, 5, 6, 7, 8},
		"2001:db8::1:0:0:1":         {0x2001, 0xdb8, 0, 0, 1, 0, 0, 1},
		"1:0:0:4::8":                {1, 0, 0, 4, 0, 0, 0, 8},
		"1:0:0:4:5::":               {1, 0, 0, 4, 5, 0, 0, 0},
		"::4:5:0:0:8":               {0, 0, 0, 4, 5, 0, 0, 8},
		"::3:4:5:6:0:0":             {0, 0, 3, 4, 5, 6, 0, 0},
		"::3:0:0:6:0:0":             {0, 0, 3, 0, 0, 6, 0, 0},
		"0:2:3:4:5:6:7:8":           {0, 2, 3, 4, 5, 6, 7, 8},
		"1:2:3:4:5:6:7:0":           {1, 2, 3, 4, 5, 6, 7, 0},
		"1:2:3:0:5:6:7:8":           {1, 2, 3, 0, 5, 6, 7, 8},
		"1:0:3:0:5:0:7:0":           {1, 0, 3, 0, 5, 0, 7, 0},
		"0:2:0:4:0:6::":             {0, 2, 0, 4, 0, 6, 0, 0},
		"0:2::5:0:7:0":              {0, 2, 0, 0, 5, 0, 7, 0},
		"1::8":                      {0: 1, 7: 8},
		"a:bc:def:1:10:100:1000:f0": {10, 0xbc, 0xdef, 1, 0x10, 0x100, 0x1000, 0xf0},
		"ffff:ffff:ffff:ffff:ffff:ffff:ffff:ffff": {0xffff, 0xffff, 0xffff, 0xffff, 0xffff, 0xffff, 0xffff, 0xffff},
	} {
		wantPrint(t, g, want)
	}
}

func TestPrintOfMapped(t *testing.T) {
	for want, g := range map[string]groups{
		"::ffff:0.0.0.0":         {5: 0xffff},
		"::ffff:0.0.0.1":         {5: 0xffff, 7: 1},
		"::ffff:0.1.0.0":         {5: 0xffff, 6: 1},
		"::ffff:1.2.3.4":         {5: 0xffff, 6: 0x102, 7: 0x304},
		"::ffff:192.168.0.1":     {5: 0xffff, 6: 0xc0a8, 7: 1},
		"::ffff:255.255.255.255": {5: 0xffff, 6: 0xffff, 7: 0xffff},
	} {
		wantPrint(t, g, want)
		wantRun(t, g, 0, 5)
	}
}

func TestPrintOfNearlyMapped(t *testing.T) {
	for want, g := range map[string]groups{
		"::102:304":            {6: 0x102, 7: 0x304},
		"::fffe:102:304":       {5: 0xfffe, 6: 0x102, 7: 0x304},
		"::ff:102:304":         {5: 0xff, 6: 0x102, 7: 0x304},
		"::1:ffff:102:304":     {4: 1, 5: 0xffff, 6: 0x102, 7: 0x304},
		"::ffff:0:102:304":     {4: 0xffff, 6: 0x102, 7: 0x304},
		"::ffff:ffff:102:304":  {4: 0xffff, 5: 0xffff, 6: 0x102, 7: 0x304},
		"1::ffff:102:304":      {0: 1, 5: 0xffff, 6: 0x102, 7: 0x304},
		"0:1::ffff:102:304":    {1: 1, 5: 0xffff, 6: 0x102, 7: 0x304},
		"::1:0:0:ffff:102:304": {2: 1, 5: 0xffff, 6: 0x102, 7: 0x304},
		"::1:0:ffff:102:304":   {3: 1, 5: 0xffff, 6: 0x102, 7: 0x304},
		"::ffff:102":           {6: 0xffff, 7: 0x102},
		"::ffff":               {7: 0xffff},
		"64:ff9b::102:304":     {0: 0x64, 1: 0xff9b, 6: 0x102, 7: 0x304},
		"ffff::102:304":        {0: 0xffff, 6: 0x102, 7: 0x304},
		"::ffff:0:0:0":         {4: 0xffff},
		"1::ffff:0:0":          {0: 1, 5: 0xffff},
	} {
		wantPrint(t, g, want)
	}
}

func TestRun(t *testing.T) {
	for g, want := range map[groups][2]int{
		{}:                           {0, 8},
		{1, 2, 3, 4, 5, 6, 7, 8}:     {0, 0},
		{0, 2, 3, 4, 5, 6, 7, 8}:     {0, 0},
		{1, 2, 3, 4, 5, 6, 7, 0}:     {0, 0},
		{0, 1, 0, 1, 0, 1, 0, 1}:     {0, 0},
		{1, 0, 1, 0, 1, 0, 1, 0}:     {0, 0},
		{0, 0, 3, 4, 5, 6, 7, 8}:     {0, 2},
		{1, 2, 3, 4, 5, 6, 0, 0}:     {6, 2},
		{1, 2, 3, 0, 0, 6, 7, 8}:     {3, 2},
		{0, 0, 3, 4, 5, 6, 0, 0}:     {0, 2},
		{1, 0, 0, 2, 0, 0, 0, 3}:     {4, 3},
		{1, 0, 0, 0, 2, 0, 0, 3}:     {1, 3},
		{1, 0, 0, 2, 0, 0, 3, 4}:     {1, 2},
		{0, 1, 0, 0, 1, 0, 1, 1}:     {2, 2},
		{0, 0, 0, 0, 0, 0, 0, 1}:     {0, 7},
		{1, 0, 0, 0, 0, 0, 0, 0}:     {1, 7},
		{0, 0, 0, 1, 0, 0, 0, 0}:     {4, 4},
		{0, 0, 0, 0, 0, 65535, 0, 0}: {0, 5},
	} {
		wantRun(t, g, want[0], want[1])
	}
}

// rows is an address for each set of places that are 0, with small and great groups at the others.
func rows() []groups {
	var all []groups
	for set := range 256 {
		for _, fill := range []groups{
			{1, 2, 3, 4, 5, 6, 7, 8},
			{0xffff, 0xffff, 0xffff, 0xffff, 0xffff, 0xffff, 0xffff, 0xffff},
			{0xa, 0xbc, 0xdef, 0xfedc, 0x8000, 0x100, 0x10, 0xf},
		} {
			for i := range 8 {
				if set>>i&1 == 1 {
					fill[i] = 0
				}
			}
			all = append(all, fill)
		}
	}
	return all
}

// some is addresses of all kinds: rows, each bit alone, mapped ones, such as nearly are, and many between.
func some() []groups {
	all := rows()
	for i := range 128 {
		var g, m groups
		g[i/16] = 1 << (i % 16)
		m[5] = 0xffff
		m[i/16] ^= 1 << (i % 16)
		all = append(all, g, m)
	}
	n := uint64(1)
	for range 20000 {
		var g groups
		for i := range g {
			n = n*6364136223846793005 + 1442695040888963407
			g[i] = uint16(n>>48) >> (n >> 40 & 31)
		}
		all = append(all, g)
	}
	return all
}

func TestPrintAgainstTheLibrary(t *testing.T) {
	for _, g := range some() {
		wantPrint(t, g, netip.AddrFrom16(six.Bytes(g)).String())
	}
}

// zeros tells whether the groups are 0 from one place up to another.
func zeros(g groups, from, to int) bool {
	for i := from; i < to; i++ {
		if g[i] != 0 {
			return false
		}
	}
	return true
}

func TestRunIsTheFirstOfTheLongest(t *testing.T) {
	for _, g := range rows() {
		at, most := 0, 0
		for from := range 8 {
			for to := from + 2; to <= 8; to++ {
				if zeros(g, from, to) && to-from > most {
					at, most = from, to-from
				}
			}
		}
		wantRun(t, g, at, most)
	}
}

// P3.1, Bytes and Of

func TestBytesAndOf(t *testing.T) {
	for g, b := range map[groups][16]byte{
		{}:                       {},
		{1, 2, 3, 4, 5, 6, 7, 8}: {0, 1, 0, 2, 0, 3, 0, 4, 0, 5, 0, 6, 0, 7, 0, 8},
		{0x0102, 0x0304, 0x0506, 0x0708, 0x090a, 0x0b0c, 0x0d0e, 0x0f10}: {1, 2, 3, 4, 5, 6, 7, 8, 9, 10, 11, 12, 13, 14, 15, 16},
		{0: 0x2001, 1: 0xdb8, 7: 1}:                                      {0: 0x20, 1: 1, 2: 0xd, 3: 0xb8, 15: 1},
		{0: 0xff00, 7: 0x00ff}:                                           {0: 255, 15: 255},
	} {
		if got := six.Bytes(g); got != b {
			t.Errorf("Bytes(%x): %v, want %v", g, got, b)
		}
		if got := six.Of(b); got != g {
			t.Errorf("Of(%v): %x, want %x", b, got, g)
		}
	}
}

func TestBytesAreTheGroupsHigherByteFirst(t *testing.T) {
	for _, g := range some() {
		b := six.Bytes(g)
		if six.Of(b) != g {
			t.Errorf("Of(Bytes(%x)): %x", g, six.Of(b))
		}
		for i := range g {
			if g[i] != uint16(b[2*i])*256+uint16(b[2*i+1]) {
				t.Errorf("Bytes(%x): %v", g, b)
			}
		}
	}
}

// P3.2

func TestPrintedIsReadAsItWas(t *testing.T) {
	for _, g := range some() {
		wantParse(t, six.Print(g), g)
	}
}

// texts is many texts of one address: in both cases, with and without noughts, with two colons at each row, and strict at the end.
func texts(g groups) []string {
	var all []string
	for _, form := range []string{"%x", "%X", "%04x", "%04X"} {
		var w []string
		for i := range 8 {
			w = append(w, fmt.Sprintf(form, g[i]))
		}
		strict := fmt.Sprintf("%d.%d.%d.%d", g[6]>>8, g[6]&255, g[7]>>8, g[7]&255)
		for _, list := range [][]string{w, append(append([]string{}, w[:6]...), strict)} {
			all = append(all, strings.Join(list, ":"))
			for from := range list {
				for to := from + 1; to <= len(list) && to <= 8 && g[to-1] == 0; to++ {
					if len(list) == 7 && to == 7 {
						break
					}
					all = append(all, strings.Join(list[:from], ":")+"::"+strings.Join(list[to:], ":"))
				}
			}
		}
	}
	return all
}

func TestOfEachAddressThereIsOnePrintedText(t *testing.T) {
	whose := map[string]groups{}
	for _, g := range some() {
		s := six.Print(g)
		if other, is := whose[s]; is && other != g {
			t.Errorf("%x and %x are both printed %q", g, other, s)
		}
		whose[s] = g
	}
	for _, g := range rows() {
		printed := six.Print(g)
		for _, s := range texts(g) {
			wantParse(t, s, g)
			if read, _ := six.Parse(s); six.Print(read) != printed {
				t.Errorf("Print(Parse(%q)): %q, want %q", s, six.Print(read), printed)
			}
		}
	}
}
