package tests

import (
	"strings"
	"testing"

	"loop.example/g00206/impl"
)

const pathAhead = "/.well-known/masque/udp/"

// wantTarget holds a target and its path against one another.
func wantTarget(t *testing.T, host string, port int, path string) {
	t.Helper()
	if got, ok := impl.TargetPath(host, port); got != path || !ok {
		t.Errorf("%q %d: %q %v, not %q", host, port, got, ok, path)
	}
	if gotHost, gotPort, ok := impl.ParseTarget(path); gotHost != host || gotPort != port || !ok {
		t.Errorf("%q: %q %d %v, not %q %d", path, gotHost, gotPort, ok, host, port)
	}
}

func wantNoPath(t *testing.T, host string, port int) {
	t.Helper()
	if path, ok := impl.TargetPath(host, port); path != "" || ok {
		t.Errorf("%q %d: %q %v", host, port, path, ok)
	}
}

func wantNoTarget(t *testing.T, path, why string) {
	t.Helper()
	if host, port, ok := impl.ParseTarget(path); host != "" || port != 0 || ok {
		t.Errorf("%s: %q: %q %d %v", why, path, host, port, ok)
	}
}

// noHosts are no hosts, for one byte, for no byte, or for too many.
func noHosts() []string {
	l := []string{"", letters(61), strings.Repeat(".", 61), letters(62), letters(1000),
		"A", "Z", "aB", "example.Org", "/", "a/b", "/a", "a/", ":", "a:1", "[::1]", "a_b", "_", "*", "*.a", "a.*", " ", "a ", " a", "a\n", "\x00", "a\x00",
		"`", "{", "@", "^", ",", "%2e", "a%3A", "é", "\xff", "\x80a", "a\xc3"}
	for b := range 256 {
		if c := string([]byte{byte(b)}); !strings.Contains("abcdefghijklmnopqrstuvwxyz0123456789.-", c) {
			l = append(l, c, "a"+c, c+"a", "a"+c+"a", letters(59)+c)
		}
	}
	return l
}

func someHosts() []string {
	l := []string{"example.org", "192.0.2.6", "a", "z", "0", "9", ".", "-", "..", "-.-", "a-b.c", "2001-db8--1", "localhost", ".a", "a.", letters(59), letters(60), strings.Repeat("-", 60)}
	for _, c := range "abcdefghijklmnopqrstuvwxyz0123456789.-" {
		l = append(l, string(c), "a"+string(c)+"b", letters(59)+string(c))
	}
	return l
}

func noPorts() []int {
	return []int{0, -1, -2, -80, -65535, 65536, 65537, 65536 + 80, 1 << 31, 1<<32 + 80, minInt, minInt + 80, maxInt}
}

func TestTargetsTold(t *testing.T) {
	for _, c := range []struct {
		host string
		port int
		path string
	}{
		{"example.org", 443, "/.well-known/masque/udp/example.org/443/"},
		{"192.0.2.6", 443, "/.well-known/masque/udp/192.0.2.6/443/"},
		{"x.local", 53, "/.well-known/masque/udp/x.local/53/"},
		{"a", 1, "/.well-known/masque/udp/a/1/"},
		{"-", 65535, "/.well-known/masque/udp/-/65535/"},
		{".", 10000, "/.well-known/masque/udp/./10000/"},
		{"..", 9, "/.well-known/masque/udp/../9/"},
		{"80", 80, "/.well-known/masque/udp/80/80/"},
		{".well-known", 65534, "/.well-known/masque/udp/.well-known/65534/"},
		{"abcdefghijabcdefghijabcdefghijabcdefghijabcdefghijabcdefghij", 100, "/.well-known/masque/udp/abcdefghijabcdefghijabcdefghijabcdefghijabcdefghijabcdefghij/100/"},
	} {
		wantTarget(t, c.host, c.port, c.path)
	}
}

func TestTargetsOfHosts(t *testing.T) {
	for _, host := range someHosts() {
		for _, port := range []int{1, 9, 10, 443, 65535} {
			wantTarget(t, host, port, pathAhead+host+"/"+decimal(port)+"/")
		}
		for _, port := range noPorts() {
			wantNoPath(t, host, port)
			wantNoTarget(t, pathAhead+host+"/"+decimal(port)+"/", "no port")
		}
	}
	for _, host := range noHosts() {
		wantNoPath(t, host, 443)
		wantNoPath(t, host, 0)
		wantNoTarget(t, pathAhead+host+"/443/", "no host")
		wantNoTarget(t, pathAhead+host+"/0/", "no host and no port")
	}
}

// decimal is written apart from the library that the program uses.
func decimal(n int) string {
	if n < 0 {
		return "-" + decimalOf(uint(-n))
	}
	return decimalOf(uint(n))
}

func decimalOf(n uint) string {
	last := string([]byte{byte('0' + n%10)})
	if n < 10 {
		return last
	}
	return decimalOf(n/10) + last
}

func TestTargetsOfEachPort(t *testing.T) {
	for port := 1; port <= 65535; port++ {
		wantTarget(t, "h", port, pathAhead+"h/"+decimal(port)+"/")
	}
}

func TestNoTargetOfOtherPorts(t *testing.T) {
	for _, port := range []string{
		"", "0", "00", "01", "080", "0443", "00000", "000001", "065535", "65536", "65540", "65600", "66000", "70000", "99999", "100000", "655350", "165535",
		"18446744073709551617", "18446744073709551696", "4294967297", "4294967376", "9223372036854775807", "9223372036854775808", "-9223372036854775808",
		strings.Repeat("9", 400), strings.Repeat("0", 400) + "1",
		"-1", "-80", "+80", "+1", "--1", " 80", "80 ", "8 0", "\t80", "80\n", "\n80", "a", "80a", "a80", "8a0", "x50", "0x50", "0X50", "0b1", "0o17", "8_0", "1_000", "1e3", "80.0", "80.", ".80", "8,0", "٣", "８０", "\x80", "\xff", "80\x00", "\x0080",
	} {
		wantNoTarget(t, pathAhead+"example.org/"+port+"/", "a port that is none")
	}
}

func TestNoTargetOfOtherPaths(t *testing.T) {
	for why, paths := range map[string][]string{
		"nothing":           {"", "/", "//", "///", "/443/", "example.org/443/", "/example.org/443/"},
		"a beginning alone": {"/.well-known", "/.well-known/", "/.well-known/masque", "/.well-known/masque/udp", "/.well-known/masque/udp/"},
		"a wrong beginning": {
			".well-known/masque/udp/example.org/443/", "//.well-known/masque/udp/example.org/443/", "/x/.well-known/masque/udp/example.org/443/", " /.well-known/masque/udp/example.org/443/",
			"/.well-known/masque/tcp/example.org/443/", "/.well-known/masque/ip/example.org/443/", "/.well-known/masque/UDP/example.org/443/", "/.Well-Known/masque/udp/example.org/443/",
			"/well-known/masque/udp/example.org/443/", "/.well-known/masque/example.org/443/", "/.well-known/udp/example.org/443/", "/masque/udp/example.org/443/", "/.well-known/masque/udpexample.org/443/",
			"/.well-known/masque/udp/.well-known/masque/udp/example.org/443/", "/other/", "a/" + strings.Repeat("0", len(pathAhead)) + "80/", "a/80/" + pathAhead, "a" + pathAhead + "80/",
		},
		"a missing /": {
			"/.well-known/masque/udp/example.org/443", "/.well-known/masque/udp/example.org443/", "/.well-known/masque/udp/example.org", "/.well-known/masque/udp/example.org/", "/.well-known/masque/udp/443/", "/.well-known/masque/udp/443",
			"/.well-known/masqueudp/example.org/443/", "/.well-knownmasque/udp/example.org/443/", "/.well-known/masque/udp/example.org:443/", "/.well-known/masque/udp/example.org:443",
		},
		"a doubled /": {
			"/.well-known/masque/udp//example.org/443/", "/.well-known/masque/udp/example.org//443/", "/.well-known/masque/udp/example.org/443//", "/.well-known//masque/udp/example.org/443/", "/.well-known/masque//udp/example.org/443/",
			"/.well-known/masque/udp//443/", "/.well-known/masque/udp///443/", "/.well-known/masque/udp///", "/.well-known/masque/udp//",
		},
		"something behind": {
			"/.well-known/masque/udp/example.org/443/x", "/.well-known/masque/udp/example.org/443/ ", "/.well-known/masque/udp/example.org/443/\n", "/.well-known/masque/udp/example.org/443/\x00", "/.well-known/masque/udp/example.org/443/?", "/.well-known/masque/udp/example.org/443/#",
			"/.well-known/masque/udp/example.org/443/443/", "/.well-known/masque/udp/example.org/443/example.org/443/", "/.well-known/masque/udp/a/b/443/", "/.well-known/masque/udp/example.org/443/" + strings.Repeat("/", 3000),
		},
		"a path of a form told otherwise": {"/.well-known/masque/udp/{target_host}/{target_port}/", "/.well-known/masque/udp/example%2Eorg/443/", "/.well-known/masque/udp/2001:db8::42/443/", "/.well-known/masque/udp/2001%3Adb8%3A%3A42/443/", `\.well-known\masque\udp\example.org\443\`},
	} {
		for _, path := range paths {
			wantNoTarget(t, path, why)
		}
	}
}

// Each byte of a path counts: one that is gone, doubled or another one makes another target or none.
func TestTargetsOfPathsChanged(t *testing.T) {
	path := pathAhead + "ex-1.org/443/"
	others := 0
	for i := range path {
		for b := range 256 {
			changed := []string{path[:i] + string([]byte{byte(b)}) + path[i+1:], path[:i] + string([]byte{byte(b)}) + path[i:], path[:i] + path[i+1:], path[:i], path[i:]}
			for _, other := range changed {
				host, port, ok := impl.ParseTarget(other)
				if again, _ := impl.TargetPath(host, port); ok && again != other || !ok && (host != "" || port != 0) {
					t.Fatalf("%q: %q %d %v, which is %q", other, host, port, ok, again)
				}
				if wantHost, wantPort, want := targetTold(other); host != wantHost || port != wantPort || ok != want {
					t.Fatalf("%q: %q %d %v, not %q %d %v", other, host, port, ok, wantHost, wantPort, want)
				}
				if ok && other != path {
					others++
				}
			}
		}
	}
	if others < 500 {
		t.Error(others)
	}
}
