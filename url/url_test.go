package url_test

import (
	"fmt"
	"strings"
	"testing"

	"abatis/addr"
	"abatis/api"
	"abatis/url"
)

// of is a text of so many letters.
func of(n int) string { return strings.Repeat("x", n) }

// longName is a name of so many bytes in all (194 to 257: three labels of 63 bytes, a fourth one, and the 0).
func longName(size int) string {
	return of(63) + "." + of(63) + "." + of(63) + "." + of(size-194)
}

func wantParse(t *testing.T, s string, u api.Url, e api.Errno) {
	t.Helper()
	if gotU, gotE := url.Parse(s); gotU != u || gotE != e {
		t.Errorf("Parse(%.80q): %+v %d, want %+v %d", s, gotU, gotE, u, e)
	}
}

func wantHost(t *testing.T, s, host string, is bool) {
	t.Helper()
	if got, gotIs := url.Host(s); got != host || gotIs != is {
		t.Errorf("Host(%.80q): %q %v, want %q %v", s, got, gotIs, host, is)
	}
}

func wantJoin(t *testing.T, from, ref, want string, e api.Errno) {
	t.Helper()
	u, parsed := url.Parse(from)
	if parsed != api.OK {
		t.Fatalf("Parse(%q): %d", from, parsed)
	}
	got, gotE := url.Join(u, ref)
	if gotE != e || e == api.OK && url.Print(got) != want || e != api.OK && got != (api.Url{}) {
		t.Errorf("Join(%q, %.80q): %+v %d, want %q %d", from, ref, got, gotE, want, e)
	}
}

// P13.1, Parse

func TestParse(t *testing.T) {
	for s, u := range map[string]api.Url{
		"http://a":                      {Scheme: "http", Host: "a", Port: 80, Path: "/"},
		"https://a":                     {Scheme: "https", Host: "a", Port: 443, Path: "/"},
		"HTTP://0x7f.1:80/a?b#c":        {Scheme: "http", Host: "127.0.0.1", Port: 80, Path: "/a", Query: "?b"},
		"HtTpS://WWW.A.Test/X/Y?Z=W":    {Scheme: "https", Host: "www.a.test", Port: 443, Path: "/X/Y", Query: "?Z=W"},
		"http://a:8080/x":               {Scheme: "http", Host: "a", Port: 8080, Path: "/x"},
		"http://a:443":                  {Scheme: "http", Host: "a", Port: 443, Path: "/"},
		"https://a:80":                  {Scheme: "https", Host: "a", Port: 80, Path: "/"},
		"https://a:443/":                {Scheme: "https", Host: "a", Port: 443, Path: "/"},
		"http://[::1]":                  {Scheme: "http", Host: "[::1]", Port: 80, Path: "/"},
		"http://[2001:DB8:0:0:1::1]:8/": {Scheme: "http", Host: "[2001:db8::1:0:0:1]", Port: 8, Path: "/"},
		"http://[::FFFF:a00:1]:?q":      {Scheme: "http", Host: "[::ffff:10.0.0.1]", Port: 80, Path: "/", Query: "?q"},
		"http://_a-b.c_":                {Scheme: "http", Host: "_a-b.c_", Port: 80, Path: "/"},
	} {
		wantParse(t, s, u, api.OK)
	}
}

func TestParsePathAndQuery(t *testing.T) {
	for rest, want := range map[string][2]string{
		"":              {"/", ""},
		"/":             {"/", ""},
		"//":            {"//", ""},
		"/a//b/../c/.":  {"/a//b/../c/.", ""},
		"/%2F%zz%":      {"/%2F%zz%", ""},
		"/a:1@b[c]":     {"/a:1@b[c]", ""},
		`/a\b`:          {`/a\b`, ""},
		"?":             {"/", "?"},
		"/?":            {"/", "?"},
		"?q":            {"/", "?q"},
		"/a?b?c/d":      {"/a", "?b?c/d"},
		"?/a":           {"/", "?/a"},
		"?http://b":     {"/", "?http://b"},
		"#":             {"/", ""},
		"#a":            {"/", ""},
		"/#":            {"/", ""},
		"?#":            {"/", "?"},
		"#?a":           {"/", ""},
		"#/a?b":         {"/", ""},
		"/a#b?c":        {"/a", ""},
		"/a?b#c":        {"/a", "?b"},
		"/a?b#c#d?e":    {"/a", "?b"},
		"/a?b##":        {"/a", "?b"},
		"/~!$&'()*+,;=": {"/~!$&'()*+,;=", ""},
	} {
		for _, place := range []string{"a.test", "a.test:", "a.test:80", "a.test:00080"} {
			wantParse(t, "http://"+place+rest, api.Url{Scheme: "http", Host: "a.test", Port: 80, Path: want[0], Query: want[1]}, api.OK)
		}
		wantParse(t, "https://[::]:7"+rest, api.Url{Scheme: "https", Host: "[::]", Port: 7, Path: want[0], Query: want[1]}, api.OK)
	}
}

func TestParsePorts(t *testing.T) {
	for _, host := range []string{"a", "1.2.3.4", "[1:2:3:4:5:6:7:8]"} {
		for digits, port := range map[string]int{
			"": 80, "0": 0, "00000": 0, "1": 1, "00001": 1, "80": 80, "00080": 80, "0080": 80, "443": 443, "9999": 9999, "65534": 65534, "65535": 65535,
		} {
			wantParse(t, "http://"+host+":"+digits+"/p", api.Url{Scheme: "http", Host: host, Port: port, Path: "/p"}, api.OK)
		}
		for _, wrong := range []string{
			"65536", "70000", "99999", "100000", "000000", "000080", "0000000080", "8a", "a", "a8", "0x50", "-1", "+1", "-0", "8.0", "8_0", ":80", "80:", "80:80", "@", "80@b", "[80]", "]", "1]", "18446744073709551696", of(1000), strings.Repeat("0", 1000),
		} {
			wantParse(t, "http://"+host+":"+wrong, api.Url{}, api.ErrForm)
			wantParse(t, "https://"+host+":"+wrong+"/p?q#r", api.Url{}, api.ErrForm)
		}
	}
}

func TestParseWrongForms(t *testing.T) {
	for _, s := range []string{
		"", ":", "/", "//", "://", "://a", "//a", "/a", "a", "a.test", "http", "http:", "http:/", "http:/a", "http:a", "http//a", "http::/a", "http:///", "http://",
		"http:///a", "http://?a", "http://#a", "http://:80", "http://:", "http://:80/", "http://[]", "http://[", "http://]", "http://[]:80",
		"htt://a", "httpss://a", "ftp://a", "ws://a", "wss://a", "file:///a", "xhttp://a", "hhttp://a", "http ://a", "http:\\\\a", "http:/\\a", "about:blank", "data:,a", "javascript:a", "blob:http://a",
		"a@http://b", "-http://a", "http+https://a", "http:http://a", "http%3a//a", "https:/http://a",
		"http://a@b", "http://a:b@c", "http://@a", "http://:@a", "http://a%20b", "http://a%2eb", "http://%61", "http://a,b", "http://a!b", "http://*.a", "http://a\\b", "http://a\"", "http://(a)", "http://a=b", "http://a+b", "http://a~", "http://a;b", "http://a|b", "http://a^b", "http://a`b", "http://{a}", "http://<a>", "http://$", "http://a&b", "http://'a'",
		"http://.", "http://..", "http://a.", "http://.a", "http://a..b", "http://a.b.", "http://a.:80", "http://a./",
		"http://1.2.3.256", "http://1.2.3.4.5", "http://256.1", "http://4294967296", "http://0x100000000", "http://08", "http://a.1", "http://1..2", "http://.1", "http://a.b.0x1", "http://a.09",
		"http://::1", "http://::1:80", "http://[::1", "http://::1]", "http://[::1]]", "http://[[::1]]", "http://[::1]a", "http://a[::1]", "http://[::1].a", "http://[::1]:80:80", "http://[::1]80", "http://[1.2.3.4]", "http://[a]", "http://[::1%1]", "http://[::1%25eth]", "http://[:::]", "http://[1::2::3]", "http://[1:2:3:4:5:6:7]", "http://[1:2:3:4:5:6:7:8:9]", "http://[::12345]", "http://[::g]", "http://[::1.2.3.256]", "http://[::0x1]", "http://[v1.a]", "http://[::1/]", "http://[::1?]", "http://[::1#]",
		"http://" + longName(256), "http://" + of(64), "http://a." + of(64) + ".b",
	} {
		wantParse(t, s, api.Url{}, api.ErrForm)
	}
}

func TestParseOfEachByte(t *testing.T) {
	for c := range 256 {
		sign := string([]byte{byte(c)})
		plain := 33 <= c && c <= 126
		for _, around := range [][2]string{{"http://a/", ""}, {"http://a/b", "c"}, {"http://a/?", ""}, {"http://a/?b", "c"}, {"http://a/#", ""}, {"http://a/b?c#d", "e"}} {
			e := api.ErrForm
			if plain {
				e = api.OK
			}
			if u, got := url.Parse(around[0] + sign + around[1]); got != e || e != api.OK && u != (api.Url{}) {
				t.Errorf("Parse(%q): %+v %d, want %d", around[0]+sign+around[1], u, got, e)
			}
		}
		for _, s := range []string{sign + "http://a", "h" + sign + "ttp://a", "http" + sign + "://a", "http:" + sign + "//a", "http:/" + sign + "/a"} {
			if s != "https://a" && s != "httpS://a" {
				wantParse(t, s, api.Url{}, api.ErrForm)
			}
		}
	}
}

func TestParseSchemeOfEachCase(t *testing.T) {
	for set := range 32 {
		b := []byte("https")
		for i := range b {
			if set>>i&1 == 1 {
				b[i] -= 'a' - 'A'
			}
		}
		wantParse(t, string(b)+"://a", api.Url{Scheme: "https", Host: "a", Port: 443, Path: "/"}, api.OK)
		wantParse(t, string(b[:4])+"://a", api.Url{Scheme: "http", Host: "a", Port: 80, Path: "/"}, api.OK)
	}
	// Signs that other ways of telling small letters take for those of https.
	for _, s := range []string{"http\u017f://a", "\u212attp://a", "\uff48ttp://a"} {
		wantParse(t, s, api.Url{}, api.ErrForm)
	}
}

func TestParseLongOnes(t *testing.T) {
	for _, ahead := range []string{"http://a/", "http://a/?", "http://a/#", "http://a?"} {
		if _, e := url.Parse(ahead + of(2000-len(ahead))); e != api.OK {
			t.Errorf("%q, 2000 bytes: %d", ahead, e)
		}
		wantParse(t, ahead+of(2001-len(ahead)), api.Url{}, api.ErrLong)
		wantParse(t, ahead+of(1<<20), api.Url{}, api.ErrLong)
	}
	// ErrLong is named first.
	for _, s := range []string{of(2001), strings.Repeat(" ", 2001), "http://a b" + of(2000), "http://a/" + strings.Repeat("\xff", 2000), "ftp://" + of(2000), strings.Repeat("http://a", 300)} {
		wantParse(t, s, api.Url{}, api.ErrLong)
	}
	for _, s := range []string{of(2000), strings.Repeat(" ", 2000), "http://" + of(1993), "http://a/" + strings.Repeat("\xff", 1991)} {
		wantParse(t, s, api.Url{}, api.ErrForm)
	}
	// Noughts ahead in a host's text count as bytes of it, not of the host.
	wantParse(t, "http://"+strings.Repeat("0", 1992)+"7", api.Url{Scheme: "http", Host: "0.0.0.7", Port: 80, Path: "/"}, api.OK)
	wantParse(t, "http://"+strings.Repeat("0", 1993)+"7", api.Url{}, api.ErrLong)
}

// P13.1, Host

func TestHost(t *testing.T) {
	for s, host := range map[string]string{
		"a": "a", "A": "a", "a.b": "a.b", "WWW.Example.TEST": "www.example.test", "-": "-", "_": "_", "-a-.-": "-a-.-", "_a._b": "_a._b", "a1": "a1", "1a": "1a", "1.a": "1.a", "1-": "1-", "1_": "1_", "0x1g": "0x1g", "0xg": "0xg", "xn--a": "xn--a", "localhost": "localhost", "LOCALHOST": "localhost", "1.2.3.4.a": "1.2.3.4.a", "1.2.3.256.a": "1.2.3.256.a", "0x": "0.0.0.0", "f": "f", "FF": "ff",
		"1.2.3.4": "1.2.3.4", "1.2.3.4.": "1.2.3.4", "127.1": "127.0.0.1", "0x7F.1": "127.0.0.1", "0X7F000001": "127.0.0.1", "0XaBcDeF01": "171.205.239.1", "2130706433": "127.0.0.1", "017700000001": "127.0.0.1", "0": "0.0.0.0", "0.": "0.0.0.0", "00.0X.0": "0.0.0.0", "4294967295": "255.255.255.255", "1.010.0x10": "1.8.0.16",
		"[::]": "[::]", "[::1]": "[::1]", "[0:0:0:0:0:0:0:1]": "[::1]", "[FE80::0:A]": "[fe80::a]", "[::ffff:1.2.3.4]": "[::ffff:1.2.3.4]", "[::FFFF:102:304]": "[::ffff:1.2.3.4]", "[::1.2.3.4]": "[::102:304]", "[64:ff9b::1.2.3.4]": "[64:ff9b::102:304]", "[1:2:3:4:5:6:7:8]": "[1:2:3:4:5:6:7:8]", "[1:2:3:4:5:6:7::]": "[1:2:3:4:5:6:7:0]", "[0001:0:0:2::]": "[1:0:0:2::]",
		of(63): of(63), longName(255): longName(255), strings.Repeat("A.", 126) + "A": strings.Repeat("a.", 126) + "a",
		strings.Repeat("0", 5000) + "17": "0.0.0.15",
	} {
		wantHost(t, s, host, true)
	}
}

func TestHostOfWrongTexts(t *testing.T) {
	for _, s := range []string{
		"", ".", "..", "a.", ".a", "a..b", "a.b.", "1..", of(64), "a." + of(64), longName(256), longName(257), strings.Repeat("a.", 127) + "a",
		"1.2.3.4.5", "1.2.3.256", "256.1", "4294967296", "08", "1.09", "a.1", "a.b.0x", "1..2", ".1", "..1", "a_b.7", "-.0", "1.2.3.4.5.", "0x100000000.",
		"a b", " a", "a ", "a:", "a:80", "a/", "a@b", "a%", "a,b", "a*", "*", "a\x00", "\x00", "a\x7f", "a\n", "\t", "a?", "a#", "a\\b",
		"\u00e4", "\u00c4", "\uff41", "a\u3002b", "\u0661", "\u212a", "\u017f", "\xff", "a\xff", "\xc3", "a.\x80",
		"[", "]", "[]", "[[", "]]", "[[]]", "][", "::1", "[::1", "::1]", "[::1]]", "[[::1]", "[[::1]]", "[::1] ", " [::1]", "[ ::1]", "[::1 ]", "[::1]:80", "[::1].", "a[::1]", "[::1]a", "[1.2.3.4]", "[a]", "[a.test]", "[127.1]", "[::1%1]", "[:]", "[:::]", "[1]", "[1:2:3:4:5:6:7]", "[1:2:3:4:5:6:7:8:9]", "[1:2:3:4:5:6:7:8::]", "[::00001]", "[::g]", "[::1.2.3]", "[::01.2.3.4]", "[::\xff]", "(::1)", "{::1}",
	} {
		wantHost(t, s, "", false)
	}
}

func TestHostOfEachSign(t *testing.T) {
	for c := range 256 {
		sign := string([]byte{byte(c)})
		switch {
		case '0' <= c && c <= '9', 'a' <= c && c <= 'z', c == '-', c == '_':
			wantHost(t, "a"+sign+"b", "a"+sign+"b", true)
			wantHost(t, sign+"y", sign+"y", true)
		case 'A' <= c && c <= 'Z':
			small := string([]byte{byte(c) + 32})
			wantHost(t, "a"+sign+"b", "a"+small+"b", true)
			wantHost(t, sign+"Y", small+"y", true)
		case c == '.':
			wantHost(t, "a"+sign+"b", "a.b", true)
			wantHost(t, sign+"y", "", false)
		default:
			for _, s := range []string{sign, "a" + sign + "b", sign + "y", "y" + sign, "1.2.3.4" + sign, sign + "1.2.3.4", "1." + sign + ".2"} {
				wantHost(t, s, "", false)
			}
		}
	}
	for _, r := range []rune{0xaa, 0xdf, 0x130, 0x131, 0x17f, 0x1e9e, 0x212a, 0x2024, 0x2d0, 0xfe52, 0xff0e, 0xff11, 0xff21, 0xff41, 0xfffd, 0x10400, 0x1d7ce, 0x1f600, 0x10ffff} {
		for _, s := range []string{string(r), "a" + string(r), string(r) + "a", "a." + string(r) + ".b"} {
			wantHost(t, s, "", false)
		}
	}
}

// P13.1, Print, Origin, Text, Port

func TestPrint(t *testing.T) {
	for s, want := range map[string]string{
		"HTTP://0x7f.1:80/a?b#c":    "http://127.0.0.1/a?b",
		"http://a":                  "http://a/",
		"http://A?":                 "http://a/?",
		"https://a:80#x":            "https://a:80/",
		"https://a:443/x":           "https://a/x",
		"http://a:443/x":            "http://a:443/x",
		"http://a:0":                "http://a:0/",
		"http://a:00001":            "http://a:1/",
		"http://a:65535?b":          "http://a:65535/?b",
		"https://[0:0::1]:8443/X?Y": "https://[::1]:8443/X?Y",
		"http://1.2.3.4.:80":        "http://1.2.3.4/",
	} {
		u, e := url.Parse(s)
		if got := url.Print(u); e != api.OK || got != want {
			t.Errorf("Print of %q: %q %d, want %q", s, got, e, want)
		}
	}
}

func TestOriginAndText(t *testing.T) {
	for s, want := range map[string]struct {
		origin api.Origin
		text   string
	}{
		"http://a":                {api.Origin{Scheme: "http", Host: "a", Port: 80}, "http://a"},
		"http://A:80/x?y#z":       {api.Origin{Scheme: "http", Host: "a", Port: 80}, "http://a"},
		"https://a:80/x":          {api.Origin{Scheme: "https", Host: "a", Port: 80}, "https://a:80"},
		"https://a":               {api.Origin{Scheme: "https", Host: "a", Port: 443}, "https://a"},
		"http://a:443":            {api.Origin{Scheme: "http", Host: "a", Port: 443}, "http://a:443"},
		"http://a:0?q":            {api.Origin{Scheme: "http", Host: "a", Port: 0}, "http://a:0"},
		"https://[::1]:65535/a/b": {api.Origin{Scheme: "https", Host: "[::1]", Port: 65535}, "https://[::1]:65535"},
		"http://0x7f.1":           {api.Origin{Scheme: "http", Host: "127.0.0.1", Port: 80}, "http://127.0.0.1"},
	} {
		u, e := url.Parse(s)
		o := url.Origin(u)
		if e != api.OK || o != want.origin {
			t.Errorf("Origin of %q: %+v %d, want %+v", s, o, e, want.origin)
		}
		if got := url.Text(o); got != want.text {
			t.Errorf("Text of %q: %q, want %q", s, got, want.text)
		}
	}
}

func TestPort(t *testing.T) {
	for scheme, port := range map[string]int{
		"http": 80, "https": 443, "": 0, "HTTP": 0, "HTTPS": 0, "Http": 0, "http:": 0, "http://": 0, "httpss": 0, "htt": 0, "ftp": 0, "ws": 0, "wss": 0, " http": 0, "http ": 0, "80": 0, "\xff": 0,
	} {
		if got := url.Port(scheme); got != port {
			t.Errorf("Port(%q): %d, want %d", scheme, got, port)
		}
	}
}

// P13.2, Join

func TestJoin(t *testing.T) {
	from := "https://a.test:8443/x/y?z"
	for ref, want := range map[string]string{
		"http://b":            "http://b/",
		"HTTP://B.Test:80/p":  "http://b.test/p",
		"https://0x7f.1":      "https://127.0.0.1/",
		"hTTps://[0::1]:1?q":  "https://[::1]:1/?q",
		"//b":                 "https://b/",
		"//B:443":             "https://b/",
		"//b:80/p?q#r":        "https://b:80/p?q",
		"//1":                 "https://0.0.0.1/",
		"//http://b":          "https://http//b",
		"//[::FFFF:7f00:1]?a": "https://[::ffff:127.0.0.1]/?a",
		"/":                   "https://a.test:8443/",
		"/p":                  "https://a.test:8443/p",
		"/p?q#r":              "https://a.test:8443/p?q",
		"/?q":                 "https://a.test:8443/?q",
		"/#r":                 "https://a.test:8443/",
		"/:80":                "https://a.test:8443/:80",
		"/@b":                 "https://a.test:8443/@b",
		"/.//b":               "https://a.test:8443/.//b",
		"/../p/./q":           "https://a.test:8443/../p/./q",
		"/http://b":           "https://a.test:8443/http://b",
		"/p://q":              "https://a.test:8443/p://q",
		`/\b`:                 `https://a.test:8443/\b`,
	} {
		wantJoin(t, from, ref, want, api.OK)
	}
	wantJoin(t, "http://a", "/p", "http://a/p", api.OK)
	wantJoin(t, "http://a:0", "/p", "http://a:0/p", api.OK)
	wantJoin(t, "http://[::1]:443?q", "/p", "http://[::1]:443/p", api.OK)
	wantJoin(t, "http://[::1]:443?q", "//b", "http://b/", api.OK)
	wantJoin(t, "http://127.1/x", "/", "http://127.0.0.1/", api.OK)
}

func TestJoinOfReferencesThatBeginOtherwise(t *testing.T) {
	for _, from := range []string{"http://a", "https://a.test:8443/x/y?z"} {
		for _, ref := range []string{
			"", "p", "p/q", "./p", "../p", ".", "?q", "#r", ":", ":80", "?", "#", "\\p", "\\\\b", "a.test", "a.test/p", "http", "https", "http:", "https:", "http:p", "http:/p", "https:/p", "http:\\\\b", "ftp://b", "ws://b", "wss://b", "data:,a", "javascript:a", "about:blank", " /p", " http://b", "\t//b", "xhttp://b", "httpx://b", "http ://b", "%2fp", "\xff", "\xff/p", of(2001), strings.Repeat("?", 5000),
		} {
			wantJoin(t, from, ref, "", api.ErrForm)
		}
	}
}

func TestJoinTellsTheErrorsOfParse(t *testing.T) {
	from := "https://a.test:8443/x/y?z"
	for _, ref := range []string{
		"//", "///", "///b", "//?", "//#", "//:80", "//@", "//a@b", "//b:x", "//b:65536", "//1.2.3.256", "//b.", "// b", "//\u00e4", "//[::1", "//\\b",
		"/ ", "/p q", "/\u00e4", "/\x7f", "/\n", "/p\xff", "/?\x00", "/# ",
		"http://", "http://?", "https:///b", "http://b c", "HTTP://b:99999", "https://b\\",
	} {
		wantJoin(t, from, ref, "", api.ErrForm)
	}
	for _, ref := range []string{"http://b/", "HTTPS://b/?"} {
		wantJoin(t, from, ref+of(2000-len(ref)), url.Print(must(t, ref+of(2000-len(ref)))), api.OK)
		wantJoin(t, from, ref+of(2001-len(ref)), "", api.ErrLong)
	}
	// What is read ahead of the reference counts too.
	scheme, origin := "https:", "https://a.test:8443"
	wantJoin(t, from, "//b/"+of(2000-len(scheme+"//b/")), "https://b/"+of(2000-len("https://b/")), api.OK)
	wantJoin(t, from, "//b/"+of(2001-len(scheme+"//b/")), "", api.ErrLong)
	wantJoin(t, from, "/"+of(2000-len(origin+"/")), origin+"/"+of(2000-len(origin+"/")), api.OK)
	wantJoin(t, from, "/"+of(2001-len(origin+"/")), "", api.ErrLong)
	wantJoin(t, from, "/ "+of(2000), "", api.ErrLong)
	wantJoin(t, "https://a.test:443", "/"+of(2000-len("https://a.test/")), "https://a.test/"+of(2000-len("https://a.test/")), api.OK)
}

func must(t *testing.T, s string) api.Url {
	t.Helper()
	u, e := url.Parse(s)
	if e != api.OK {
		t.Fatalf("Parse(%.80q): %d", s, e)
	}
	return u
}

func TestJoinOfWhatIsJoined(t *testing.T) {
	u := must(t, "http://a:8/x")
	for _, step := range [][2]string{{"/y?z", "http://a:8/y?z"}, {"//b", "http://b/"}, {"/q", "http://b/q"}, {"https://c:9", "https://c:9/"}, {"//d:80", "https://d:80/"}, {"/", "https://d:80/"}} {
		v, e := url.Join(u, step[0])
		if e != api.OK || url.Print(v) != step[1] {
			t.Fatalf("Join(%q, %q): %q %d, want %q", url.Print(u), step[0], url.Print(v), e, step[1])
		}
		u = v
	}
}

// P13.2, Literal

func TestLiteral(t *testing.T) {
	for host, want := range map[string]string{
		"0.0.0.0": "0.0.0.0", "10.0.0.1": "10.0.0.1", "255.255.255.255": "255.255.255.255",
		"[::]": "::", "[::1]": "::1", "[2001:db8::1:0:0:1]": "2001:db8::1:0:0:1", "[::ffff:10.0.0.1]": "::ffff:10.0.0.1", "[ffff:ffff:ffff:ffff:ffff:ffff:ffff:ffff]": "ffff:ffff:ffff:ffff:ffff:ffff:ffff:ffff",
	} {
		a, is := url.Literal(host)
		if w, _ := addr.Parse(want); !is || a != w {
			t.Errorf("Literal(%q): %v %v, want %s", host, a, is, want)
		}
	}
	for _, host := range []string{
		"", "a", "a.test", "localhost", "1.2.3.4.a", "1.2.3", "127.1", "0x7f.1", "0x7f.0.0.1", "01.2.3.4", "1.2.3.4.", "1.2.3.256", "2130706433", "1.2.3.4:80", " 1.2.3.4", "1.2.3.4/8",
		"::", "::1", "2001:db8::1", "::ffff:10.0.0.1", "[", "]", "[]", "[[::1]]", "[::1", "::1]", "[::1]:80", "[::1] ", "[10.0.0.1]", "[127.1]", "[a]", "[localhost]", "[::g]", "[::1%1]", "[::1::]", "[:]", "\xff", "[\xff]",
	} {
		if a, is := url.Literal(host); is || a != (api.Addr{}) {
			t.Errorf("Literal(%q): %v %v, want none", host, a, is)
		}
	}
}

func TestLiteralOfHosts(t *testing.T) {
	for text, want := range map[string]string{"0X7F.1": "127.0.0.1", "010.": "0.0.0.8", "[0:0:0::1]": "::1", "[::FFFF:a00:1]": "::ffff:10.0.0.1"} {
		host, _ := url.Host(text)
		a, is := url.Literal(host)
		if !is || addr.Print(a) != want {
			t.Errorf("Literal(%q): %v %v, want %s", host, a, is, want)
		}
	}
	for _, text := range []string{"a", "1a", "1.2.3.4.b", "0xg", "localhost"} {
		host, _ := url.Host(text)
		if a, is := url.Literal(host); is || a != (api.Addr{}) {
			t.Errorf("Literal(%q): %v %v", host, a, is)
		}
	}
}

// P13.2, Local

func TestLocal(t *testing.T) {
	for _, host := range []string{"localhost", "LOCALHOST", "LocalHost", "a.localhost", "a.b.localhost", "A.LOCALHOST", "localhost.localhost", "-.localhost", "1.localhost", of(63) + ".localhost"} {
		if !url.Local(host) {
			t.Errorf("Local(%q): false", host)
		}
	}
	for _, host := range []string{"", "a", "local", "host", "localhos", "localhost2", "alocalhost", "notlocalhost", "-localhost", "a.notlocalhost", "localhost.a", "localhost.localdomain", "local.host", "a.local", "127.0.0.1", "[::1]", "localhost:80", "[localhost]", "loc\u00e4lhost", "localho\u017ft", "\xff"} {
		if url.Local(host) {
			t.Errorf("Local(%q): true", host)
		}
	}
}

// P13.3

func TestOriginsAndTheirTexts(t *testing.T) {
	var all []api.Url
	for _, scheme := range []string{"http", "HTTPS"} {
		for _, host := range []string{"a", "A", "a.b", "a8", "8", "0.0.0.8", "[::1]", "[0::1]", "[::1:80]", "[::18]"} {
			for _, port := range []string{"", ":", ":8", ":80", ":00080", ":443", ":0", ":808", ":65535"} {
				for _, rest := range []string{"", "/x?y"} {
					all = append(all, must(t, scheme+"://"+host+port+rest))
				}
			}
		}
	}
	for _, u := range all {
		for _, v := range all {
			one := u.Scheme == v.Scheme && u.Host == v.Host && u.Port == v.Port
			if (url.Origin(u) == url.Origin(v)) != one || (url.Text(url.Origin(u)) == url.Text(url.Origin(v))) != one {
				t.Errorf("%q and %q: of one origin %v, want %v", url.Print(u), url.Print(v), url.Origin(u) == url.Origin(v), one)
			}
		}
	}
}

// What is printed may be longer than what was read: P13.1's bound is of what is read.
func TestPrintedTextsThatAreTooLong(t *testing.T) {
	s := "http://a?" + of(1991)
	printed := url.Print(must(t, s))
	if len(s) != 2000 || printed != "http://a/?"+of(1991) {
		t.Fatalf("%d bytes, printed %d", len(s), len(printed))
	}
	wantParse(t, printed, api.Url{}, api.ErrLong)
	if u := must(t, url.Print(must(t, s[:1999]))); u.Query != "?"+of(1990) {
		t.Errorf("%d bytes of a query", len(u.Query))
	}
}

// R1: odd arguments end too.
func TestOddArguments(t *testing.T) {
	odd := []string{"", ":", "/", "//", "[", "]", "[]", "?", "#", "http", "http://a", "\x00", "\xff", " ", "a.", "\u00e4", of(3000)}
	for _, a := range odd {
		for _, b := range odd {
			for _, port := range []int{-1 << 63, -1, 0, 80, 65536, 1<<63 - 1} {
				u := api.Url{Scheme: a, Host: b, Port: port, Path: b, Query: a}
				o := api.Origin{Scheme: a, Host: b, Port: port}
				if url.Origin(u) != o {
					t.Errorf("Origin(%+v)", u)
				}
				want := fmt.Sprintf("%s://%s:%d", a, b, port)
				if port == 80 && a == "http" || port == 0 && a != "http" {
					want = a + "://" + b
				}
				if url.Text(o) != want || url.Print(u) != want+b+a {
					t.Errorf("Text(%+v): %q, want %q", o, url.Text(o), want)
				}
				if v, e := url.Join(u, a); e != api.OK && v != (api.Url{}) {
					t.Errorf("Join(%+v, %q): %+v %d", u, a, v, e)
				}
			}
		}
		url.Literal(a)
		url.Local(a)
	}
	for ref, e := range map[string]api.Errno{"/p": api.ErrForm, "//b": api.ErrForm, "p": api.ErrForm, "http://b": api.OK} {
		if _, got := url.Join(api.Url{}, ref); got != e {
			t.Errorf("Join of none and %q: %d, want %d", ref, got, e)
		}
	}
}
